"""Pagewise: sorted joins, page by page, without making the join."""

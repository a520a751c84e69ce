"""Neighbours, and the small groups of columns that leave a query without a good order."""

"""A desk with tables, and many queries over them."""

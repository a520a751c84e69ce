"""Queries: which tables are joined, and which columns are shown."""

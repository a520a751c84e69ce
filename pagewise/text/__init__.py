"""Texts of values, selects, and a shell for a desk."""

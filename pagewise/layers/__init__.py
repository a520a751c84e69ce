"""The forest of a good order, and the small numbers that are kept for its columns."""

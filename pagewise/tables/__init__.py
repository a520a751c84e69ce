"""Tables of a query, and their answers."""

"""Orders of columns by which answers are found, and sort orders that have one."""

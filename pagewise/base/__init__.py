"""What all parts of the package rest on: names and rows."""

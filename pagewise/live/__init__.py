"""Tables that change, and cursors that stay at their answers."""

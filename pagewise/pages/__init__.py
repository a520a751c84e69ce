"""Pages of answers, and sums over them, without making the answers."""

"""Keys, by which queries grow until pages of them can be had."""

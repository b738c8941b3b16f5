"""Words and numbers, sets of places and families of them."""

"""Rules and books of them."""

"""What is decided for all orders at once."""

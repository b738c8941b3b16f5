"""Seats, and the sets of them."""

"""Quorum systems of every order, grown from kinds."""

"""Sizes and numbers of quorums."""

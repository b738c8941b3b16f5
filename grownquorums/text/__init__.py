"""Texts of books, camps and papers, and a shell."""

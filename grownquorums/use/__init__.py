"""Changed books, and councils."""

"""Heapwords: words in which some letters may change places."""

"""Kinwords: sayings about kinds, and what follows from them."""

"""Signed counts, and what follows from them."""

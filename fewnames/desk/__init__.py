"""Desks, which keep programs and pins."""

"""Rounds and runs."""

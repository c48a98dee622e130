"""Fewnames: new names from a short list."""

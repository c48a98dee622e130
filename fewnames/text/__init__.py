"""Texts of rounds, runs, groups and programs, and the shell."""

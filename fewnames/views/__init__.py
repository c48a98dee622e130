"""Views and partners."""

"""Programs, and what is asked of them."""

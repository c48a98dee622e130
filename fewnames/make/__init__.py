"""Programs that are made, and tables at which threads take new names."""

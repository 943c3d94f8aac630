"""Values and how they are written and read."""

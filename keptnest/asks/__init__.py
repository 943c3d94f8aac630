"""Questions, their kinds and their answers."""

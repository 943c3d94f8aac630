"""Questions turned by rules into others with the same answers."""

"""Branches answered by plans, and counts told as sums of products."""

"""Differences of questions, and answers brought on by them."""

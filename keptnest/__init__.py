"""Keptnest: questions over nested bags, and answers kept."""

"""Counts of rows and of faces."""

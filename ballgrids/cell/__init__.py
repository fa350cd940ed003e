"""Cells of forms."""

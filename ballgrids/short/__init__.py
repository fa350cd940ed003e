"""Reduced forms and short rows."""

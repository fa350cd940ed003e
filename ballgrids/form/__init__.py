"""Rows, tables, matrices and forms."""

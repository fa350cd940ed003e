"""Bounds of densities."""

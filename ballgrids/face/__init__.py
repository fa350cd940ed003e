"""Faces of cones and their symmetries."""

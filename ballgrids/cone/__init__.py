"""Told forms, their copies, and the cones of these."""

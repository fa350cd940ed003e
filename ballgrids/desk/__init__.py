"""Promises about forms, and desks that keep them."""

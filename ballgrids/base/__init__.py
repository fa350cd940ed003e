"""Integers, ratios and lists of integers."""

"""Prices of positive tables."""

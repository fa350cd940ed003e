"""Chains of ever denser forms."""

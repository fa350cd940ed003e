"""Galleries of copies, and words of matrices."""

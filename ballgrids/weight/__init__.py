"""Weights of the adjoint along the least rows."""

"""Ballgrids: how close balls can lie at the points of a grid."""

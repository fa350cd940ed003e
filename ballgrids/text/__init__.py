"""Texts, and a shell of commands."""

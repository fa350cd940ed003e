"""Forms that matrices take to one another."""

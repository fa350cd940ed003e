"""What rows tell about a table."""

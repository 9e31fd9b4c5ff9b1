"""Hillsight: hills on a line that see each other."""

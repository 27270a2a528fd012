"""Homeward: keys near their own room."""

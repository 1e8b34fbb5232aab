"""Dishes that must come together, started by the clock and by calls."""

"""Cords that cross, and rules of colours of which only a custom is known."""

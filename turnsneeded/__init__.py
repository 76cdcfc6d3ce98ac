"""Turnsneeded: how many loops must stand one inside another, whatever the size."""

"""Grids, their cases and their islands."""

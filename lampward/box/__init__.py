"""Boxes of points."""

"""Texts that are written and read."""

"""Fractions and their texts."""

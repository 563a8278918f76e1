"""Losses: the state after a case, and the harms."""

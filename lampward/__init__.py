"""Lampward: a power grid that stays whole after the loss of any one part."""

"""Watches, and what is granted by them."""

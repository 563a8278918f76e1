"""The control desk and its journal."""

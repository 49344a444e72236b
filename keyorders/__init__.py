"""Keyorders: orders told by rows of keys."""

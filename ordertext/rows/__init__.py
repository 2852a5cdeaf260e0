"""Rows of things and orders that are ones for them."""

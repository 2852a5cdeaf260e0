"""Fractions, of which things are made."""

"""Looks at few things: as few as can be, and nets of them."""

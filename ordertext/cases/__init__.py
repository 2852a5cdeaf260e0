"""Facts about things, and what they tell."""

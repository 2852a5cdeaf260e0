"""Orders as rows of words."""

"""Orders told as text, judged, and rows kept by them."""

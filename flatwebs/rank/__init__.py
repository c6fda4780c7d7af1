"""Orders of the places of a web."""

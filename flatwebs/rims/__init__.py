"""What the rims of a drawing tell."""

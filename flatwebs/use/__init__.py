"""A bench, on which a drawing changes."""

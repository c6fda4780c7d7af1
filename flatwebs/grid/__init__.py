"""Drawings on a grid, and drawings by springs."""

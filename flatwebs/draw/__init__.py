"""Drawings of a web, and why there are none."""

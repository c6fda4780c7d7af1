"""Colours of rims, places and ties."""

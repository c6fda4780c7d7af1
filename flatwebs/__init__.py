"""Webs drawn flat, told by one table of turns."""

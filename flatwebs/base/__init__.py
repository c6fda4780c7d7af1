"""Names, webs, rings and drawings."""

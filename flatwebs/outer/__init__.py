"""Webs whose places all lie on one rim."""

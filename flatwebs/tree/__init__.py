"""The blocks of a web, and where they part."""

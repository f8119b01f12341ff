"""Words and dictionaries."""

"""The desk: a dictionary at work."""

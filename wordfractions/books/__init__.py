"""Books of rules for kinds, charts and trees over rows."""

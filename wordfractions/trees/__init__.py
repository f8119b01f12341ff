"""Trees of kinds."""

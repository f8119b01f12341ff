"""Values of kinds and derivations in finite worlds."""

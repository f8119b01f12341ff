"""The search for derivations without cuts."""

"""Mirrors, numbered derivations and interpolants."""

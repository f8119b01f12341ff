"""Derivations made of derivations, without cuts."""

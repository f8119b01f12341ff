"""Sequents, the rules that lead to them, and derivations."""

"""Grammars of rules."""

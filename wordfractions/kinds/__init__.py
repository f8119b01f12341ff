"""Kinds: their shape, text, order and balance."""

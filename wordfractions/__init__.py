"""Wordfractions: a grammar workshop of words that bear kinds."""

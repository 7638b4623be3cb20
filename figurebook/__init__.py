"""Figurebook: figures told by rules, listed, numbered, counted."""

"""Countveil: a house of counts."""

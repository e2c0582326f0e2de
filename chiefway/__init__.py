"""Chiefway: books of kinds, and programs that are worth the same however they are read."""

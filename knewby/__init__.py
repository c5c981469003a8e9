"""Knewby: who can have known what by which hour."""

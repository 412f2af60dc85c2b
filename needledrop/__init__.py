"""Needledrop: cards with overlapping codes."""

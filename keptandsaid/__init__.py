"""Keptandsaid: what must be said and what can be kept."""

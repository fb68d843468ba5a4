"""Additive maps, and what depends on what over a field."""

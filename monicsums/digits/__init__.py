"""Digits of integers, and carries."""

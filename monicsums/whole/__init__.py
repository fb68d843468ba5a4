"""Factorials of integers as polynomials, and polynomials that take whole values everywhere."""

"""Sums of powers below 0: reciprocals of monic polynomials, products of their sums, and series that stop."""

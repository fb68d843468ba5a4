"""Sums of powers of all monic polynomials of a degree, and what digits tell of them."""

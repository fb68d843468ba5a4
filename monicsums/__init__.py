"""Polynomials over a finite field, and sums of powers of all monic ones."""

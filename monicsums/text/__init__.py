"""Texts of polynomials, quotients, rows and told values, and a shell for a shelf."""

"""A shelf of named polynomials with what is claimed of them, and its log."""

"""Fields, polynomials over them, and quotients of polynomials."""

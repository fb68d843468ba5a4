"""The ring C of additive polynomials, and rests modulo primes under it."""

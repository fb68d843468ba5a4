"""Series of quotients: the exponential of C, and its numbers."""

"""Polynomials over a field."""

from monicsums.errors import InvalidField, InvalidPolynomial, Refused, TooMany
from monicsums.ground.factoring import count_primes, is_prime_row, prime_times
from monicsums.ground.fields import check_element, check_field
from monicsums.ground.integers import check_between, check_d, check_from, whole_power
from monicsums.ground.rows import is_row_over, row_divided, row_less, row_monic, row_monics
from monicsums.ground.rows import row_power, row_power_rest, row_product, row_scaled, row_sum, row_value
from monicsums.ground.tables import INVERSES

MAX_DEGREE = 400
MAX_MADE = 2000
MAX_FACTORED = 20
# The greatest degree of a prime that is passed as one.
MOST_PRIME_DEGREE = 6
# How many monic polynomials of a degree there may be where they are listed.
MOST_LISTED = 1000


def is_polynomial(q, value):
    """Whether the value is a polynomial of degree at most 400."""
    check_field(q)
    return is_row_over(q, value, MAX_DEGREE)


def is_monic(q, value):
    """Whether the value is a monic polynomial of degree at most 400."""
    return is_polynomial(q, value) and len(value) > 0 and value[-1] == 1


def is_prime(q, value):
    """Whether the value is a prime of degree at most 20."""
    return is_monic(q, value) and len(value) - 1 <= MAX_FACTORED and is_prime_row(q, value)


def check_polynomial(q, a):
    """Raise InvalidPolynomial unless a is a polynomial of degree at most 400."""
    if not is_polynomial(q, a):
        raise InvalidPolynomial("not a polynomial over the field")


def check_monic(q, a):
    """Raise InvalidPolynomial unless a is a monic polynomial of degree at most 400."""
    if not is_monic(q, a):
        raise InvalidPolynomial("not a monic polynomial over the field")


def check_prime(q, prime):
    """Raise InvalidPolynomial unless the value is a prime of degree at most 6."""
    if not is_monic(q, prime) or len(prime) - 1 > MOST_PRIME_DEGREE or not is_prime_row(q, prime):
        raise InvalidPolynomial("not a prime over the field of degree at most 6")


def check_modulus(q, m):
    """Raise InvalidPolynomial unless m is a polynomial of degree at most 400, other than 0."""
    if not is_polynomial(q, m) or len(m) == 0:
        raise InvalidPolynomial("not a polynomial over the field with a degree from 0 on")


def check_pair(q, a, b):
    """Raise an error unless a and b are polynomials over the field q."""
    check_polynomial(q, a)
    check_polynomial(q, b)


def check_divisor(b):
    """Raise Refused if b is 0."""
    if len(b) == 0:
        raise Refused(("zero",))


def check_made(degree):
    """Raise TooMany for the degree of a polynomial that is too long to be made."""
    if degree > MAX_MADE:
        raise TooMany(MAX_MADE)


def added(q, a, b):
    """The sum."""
    check_pair(q, a, b)
    return row_sum(q, a, b)


def less(q, a, b):
    """The difference."""
    check_pair(q, a, b)
    return row_less(q, a, b)


def times(q, a, b):
    """The product."""
    check_pair(q, a, b)
    return row_product(q, a, b)


def divided(q, a, b):
    """The pair of the quotient and the rest of a divided by b."""
    check_pair(q, a, b)
    check_divisor(b)
    return row_divided(q, a, b)


def power(q, a, k):
    """The k-th power of a."""
    check_polynomial(q, a)
    check_from(k, 0)
    check_made((len(a) - 1) * k)
    return row_power(q, a, k)


def power_rest(q, a, k, m):
    """The rest of the k-th power of a modulo m."""
    check_polynomial(q, a)
    check_from(k, 0)
    check_modulus(q, m)
    return row_power_rest(q, a, k, m)


def common(q, a, b):
    """A triple (g, u, v): g is the greatest monic common divisor, and u a + v b."""
    check_pair(q, a, b)
    one = (a, (1,), ())
    other = (b, (), (1,))
    while len(other[0]) > 0:
        quotient, rest = row_divided(q, one[0], other[0])
        u = row_less(q, one[1], row_product(q, quotient, other[1]))
        v = row_less(q, one[2], row_product(q, quotient, other[2]))
        one = other
        other = (rest, u, v)
    if len(one[0]) == 0:
        return (), (), ()
    inverse = INVERSES[q][one[0][-1]]
    return row_monic(q, one[0]), row_scaled(q, inverse, one[1]), row_scaled(q, inverse, one[2])


def check_listed(q, d):
    """Raise TooMany if there are too many monic polynomials of degree d to list them."""
    if whole_power(q, d) > MOST_LISTED:
        raise TooMany(MOST_LISTED)


def monics(q, d):
    """The ascending tuple of all monic polynomials of degree d."""
    check_field(q)
    check_d(d)
    check_listed(q, d)
    return tuple(row_monics(q, d))


def check_prime_degree(h):
    """Raise InvalidNumber unless h may be the degree of primes that are counted."""
    check_between(h, 1, 60)


def primes_of(q, h):
    """The ascending tuple of all primes of degree h."""
    check_field(q)
    check_prime_degree(h)
    check_listed(q, h)
    return tuple([a for a in row_monics(q, h) if is_prime_row(q, a)])


def prime_count(q, h):
    """How many primes of degree h there are."""
    check_field(q)
    check_prime_degree(h)
    return count_primes(q, h)


def check_factored(a):
    """Raise an error unless a is another polynomial than 0 of a degree of at most 20."""
    check_divisor(a)
    if len(a) - 1 > MAX_FACTORED:
        raise TooMany(MAX_FACTORED)


def factors(q, a):
    """The pair of an element and the ascending pairs (prime, times) whose product is a."""
    check_polynomial(q, a)
    check_factored(a)
    found = prime_times(q, row_monic(q, a))
    return a[-1], tuple([(prime, found[prime]) for prime in sorted(found)])


def units_count(q, m):
    """How many rests modulo m have no common divisor with m of degree at least 1."""
    check_modulus(q, m)
    check_factored(m)
    found = prime_times(q, row_monic(q, m))
    made = 1
    for prime in found:
        size = whole_power(q, len(prime) - 1)
        made = made * (size - 1) * whole_power(size, found[prime] - 1)
    return made


def term_text(element, at):
    """The text of one term: an element other than 0 times T to a power."""
    if at == 0:
        return str(element)
    text = "T" if at == 1 else f"T^{at}"
    return text if element == 1 else f"{element} {text}"


def polynomial_text(a):
    """The text of a polynomial: its terms other than 0, that of the lowest power of T first."""
    if len(a) == 0:
        return "0"
    return " + ".join([term_text(element, at) for at, element in enumerate(a) if element != 0])


def made_poly(q, row):
    """The polynomial with operators that has these coefficients, which may be longer than passed ones."""
    made = Poly(q, ())
    made._coefficients = row
    return made


class Poly:
    """A polynomial with operators."""

    def __init__(self, q, coefficients):
        check_polynomial(q, coefficients)
        self._field = q
        self._coefficients = coefficients

    @property
    def field(self):
        """The number q of the elements of the field."""
        return self._field

    @property
    def coefficients(self):
        """The coefficients, that of 1 first."""
        return self._coefficients

    @property
    def degree(self):
        """The degree, -1 for 0."""
        return len(self._coefficients) - 1

    def __add__(self, other):
        if not isinstance(other, Poly):
            return NotImplemented
        check_same_field(self, other)
        return made_poly(self._field, row_sum(self._field, self._coefficients, other._coefficients))

    def __sub__(self, other):
        if not isinstance(other, Poly):
            return NotImplemented
        check_same_field(self, other)
        return made_poly(self._field, row_less(self._field, self._coefficients, other._coefficients))

    def __mul__(self, other):
        if not isinstance(other, Poly):
            return NotImplemented
        check_same_field(self, other)
        check_made(len(self._coefficients) + len(other._coefficients) - 2)
        return made_poly(self._field, row_product(self._field, self._coefficients, other._coefficients))

    def __floordiv__(self, other):
        if not isinstance(other, Poly):
            return NotImplemented
        return made_poly(self._field, divided_polys(self, other)[0])

    def __mod__(self, other):
        if not isinstance(other, Poly):
            return NotImplemented
        return made_poly(self._field, divided_polys(self, other)[1])

    def __pow__(self, other):
        check_from(other, 0)
        check_made((len(self._coefficients) - 1) * other)
        return made_poly(self._field, row_power(self._field, self._coefficients, other))

    def __call__(self, element):
        check_element(self._field, element)
        return row_value(self._field, self._coefficients, element)

    def __bool__(self):
        return bool(self._coefficients)

    def __len__(self):
        return len(self._coefficients)

    def __iter__(self):
        return iter(self._coefficients)

    def __eq__(self, other):
        return (
            isinstance(other, Poly)
            and self._field == other._field
            and self._coefficients == other._coefficients
        )

    def __str__(self):
        return f"{polynomial_text(self._coefficients)} over {self._field}"


def check_same_field(one, other):
    """Raise InvalidField unless both polynomials with operators are over one field."""
    if one.field != other.field:
        raise InvalidField("polynomials over two fields")


def divided_polys(one, other):
    """The coefficients of the quotient and of the rest of two polynomials with operators."""
    check_same_field(one, other)
    check_divisor(other.coefficients)
    return row_divided(one.field, one.coefficients, other.coefficients)

"""What the tests share: wrong values, sample values, and the slow and plain way to reckon."""

import unittest

from monicsums import errors
from monicsums.ground.polys import Poly, is_prime, prime_count
from monicsums.ground.rows import row_divided

FIELDS = (2, 3, 4, 5, 7, 8, 9)
PRIMES = {2: 2, 3: 3, 4: 2, 5: 5, 7: 7, 8: 2, 9: 3}
POWERS = {2: 1, 3: 1, 4: 2, 5: 1, 7: 1, 8: 3, 9: 2}
LONGEST = 10 ** 60 - 1
TOO_LONG = 10 ** 60

NESTED = ((((((((1,),),),),),),),)
# Values that are no integers from 0 on.
NO_COUNTS = [
    None, "", "3", "a b\t\n", "x" * 20100, [], [1], {}, {"a": 1}, {2: [3]}, (), (1,), (1, 2, 3), NESTED, True, False,
    -1, -(10 ** 59), TOO_LONG, -TOO_LONG, 10 ** 61, 10 ** 219, 10 ** 220 - 1, -(10 ** 219), Poly(2, (1,)),
    errors.InvalidNumber(3),
]
NO_FIELDS = NO_COUNTS + [0, 1, 6, 10, 11, 16, 25, 27]


def no_polynomials(q):
    """Values that are no polynomials over the field that may be passed."""
    return [
        None, "", "01", [], [0, 1], {}, {0: 1}, 0, 1, 2, True, False, TOO_LONG, NESTED, (0,), (1, 0), (0, 0), (q,),
        (1, q), (-1,), (True,), (0, True), (False, 1), (None,), ("1",), ((1,),), (1, [1]), ((), (1,)), (TOO_LONG,),
        (0,) * 401 + (1,), (1,) * 402, Poly(q, (0, 1)), (Poly(q, (0, 1)),), errors.TooMany(1),
    ]


def no_quotients(q):
    """Values that are no quotients over the field that may be passed."""
    values = [value for value in no_polynomials(q) if value != ((), (1,))]
    return values + [
        (), (1,), ((), ()), ((1,), ()), ((), (0, 1)), ((0, 1), (0, 1)), ((0, 1), (0, 0, 1)), [(), (1,)], [(1,), (1,)],
        ((1,), (1,), (1,)), ((1,), (1, 0)), ((1,), (q,)), ((True,), (1,)), ((1,), (True,)), ([1], (1,)),
        ((0,) * 401 + (1,), (1,)), ((1,), (0,) * 401 + (1,)), (1, 1), ("1", "1"),
    ] + [((1,), (0, element)) for element in range(2, q)]


class Case(unittest.TestCase):
    """A test case that knows the errors of the package."""

    def refuses(self, error, worth, call, *arguments):
        """Whether the call raises just this error, and keeps `worth`, where such an error keeps something."""
        with self.assertRaises(error) as caught:
            call(*arguments)
        self.assertIs(type(caught.exception), error)
        for word in ("given", "limit", "reason"):
            if hasattr(caught.exception, word):
                kept = getattr(caught.exception, word)
                self.assertEqual((type(kept), repr(kept)), (type(worth), repr(worth)))

    def refuses_number(self, value, call, *arguments):
        self.refuses(errors.InvalidNumber, value, call, *arguments)

    def refuses_zero(self, call, *arguments):
        self.refuses(errors.Refused, ("zero",), call, *arguments)

    def refuses_fields(self, call, *arguments):
        """Each wrong q is refused ahead of all else, whatever follows it."""
        for q in NO_FIELDS:
            self.refuses(errors.InvalidField, None, call, q, *arguments)
            self.refuses(errors.InvalidField, None, call, q, *[None for _ in arguments])


    def refuses_in_order(self, call, good, kinds):
        """Each wrong argument is refused by its error, whatever follows it; `kinds` has the pairs (error, values)."""
        for at, (error, values) in enumerate(kinds):
            for value in values:
                worth = value if error is errors.InvalidNumber else None
                arguments = list(good)
                arguments[at] = value
                self.refuses(error, worth, call, *arguments)
                for later in range(at + 1, len(kinds)):
                    both = list(arguments)
                    both[later] = kinds[later][1][0]
                    self.refuses(error, worth, call, *both)


class Numbers:
    """A row of numbers that look like chance, and are the same in each run."""

    def __init__(self, seed):
        self.state = seed

    def below(self, bound):
        made = 0
        for _ in range(8):
            self.state = (self.state * 6364136223846793005 + 1442695040888963407) % 2 ** 64
            made = made * 2 ** 32 + (self.state >> 32)
        return made % bound

    def polynomial(self, q, degree):
        """A polynomial of just this degree."""
        if degree < 0:
            return ()
        return tuple(self.below(q) for _ in range(degree)) + (1 + self.below(q - 1),)

    def monic(self, q, degree):
        return self.polynomial(q, degree)[:-1] + (1,)


def digits_of(b, k):
    row = []
    while k:
        row.append(k % b)
        k //= b
    return row


def element_digits(q, element):
    row = digits_of(PRIMES[q], element)
    return row + [0] * (POWERS[q] - len(row))


def told_element(q, row):
    return sum(digit * PRIMES[q] ** at for at, digit in enumerate(row))


def slow_sum(q, one, other):
    pairs = zip(element_digits(q, one), element_digits(q, other))
    return told_element(q, [(x + y) % PRIMES[q] for x, y in pairs])


def slow_opposite(q, one):
    return told_element(q, [-x % PRIMES[q] for x in element_digits(q, one)])


def slow_product(q, one, other):
    """The product as that of two polynomials in u, by the rule that u ** f is u + 1."""
    f = POWERS[q]
    row = [0] * (2 * f)
    for i, x in enumerate(element_digits(q, one)):
        for j, y in enumerate(element_digits(q, other)):
            row[i + j] += x * y
    if f > 1:
        for at in range(2 * f - 1, f - 1, -1):
            row[at - f] += row[at]
            row[at - f + 1] += row[at]
            row[at] = 0
    return told_element(q, [x % PRIMES[q] for x in row[:f]])


def cut(row):
    row = list(row)
    while row and row[-1] == 0:
        row.pop()
    return tuple(row)


def slow_added(q, a, b):
    size = max(len(a), len(b))
    pairs = zip(tuple(a) + (0,) * (size - len(a)), tuple(b) + (0,) * (size - len(b)))
    return cut([slow_sum(q, x, y) for x, y in pairs])


def slow_less(q, a, b):
    return slow_added(q, a, [slow_opposite(q, x) for x in b])


def slow_times(q, a, b):
    row = [0] * (len(a) + len(b))
    for i, x in enumerate(a):
        for j, y in enumerate(b):
            row[i + j] = slow_sum(q, row[i + j], slow_product(q, x, y))
    return cut(row)


def slow_power(q, a, k):
    made = (1,)
    for _ in range(k):
        made = slow_times(q, made, a)
    return made


def slow_monics(q, d):
    """All monic polynomials of degree d."""
    rows = [()]
    for _ in range(d):
        rows = [row + (x,) for row in rows for x in range(q)]
    return sorted(row + (1,) for row in rows)


def slow_below(q, d):
    """All polynomials of degree below d."""
    return [cut(row[:-1]) for row in slow_monics(q, d)]


def rest_of(q, a, m):
    """The rest of a modulo m; both may be longer than passed ones."""
    return row_divided(q, a, m)[1]


def minus(q, a):
    return slow_less(q, (), a)


def some_primes(q, h, many=3):
    """Some primes of degree h."""
    numbers = Numbers(10 * q + h)
    found = []
    while len(found) < many:
        a = numbers.monic(q, h)
        if is_prime(q, a) and a not in found:
            found.append(a)
        elif (q, h) in ((2, 1), (2, 2), (2, 3)) and len(found) == prime_count(q, h):
            break
    return found


def no_monics(q):
    """Values that are no monic polynomials that may be passed."""
    return no_polynomials(q) + [(), (0,) * 401 + (1,)] + [(0, element) for element in range(2, q)]


def no_primes(q):
    """Values that are no primes of degree at most 6."""
    far = some_primes(q, 7, 1)
    return no_monics(q) + [(1,), (0, 0, 1), (0, 1, 1), (0, q - 1, 1)] + far

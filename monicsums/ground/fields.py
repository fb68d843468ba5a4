"""The seven fields and their elements."""

from monicsums.errors import InvalidField, InvalidNumber, Refused
from monicsums.ground.integers import check_from, is_between, is_integer
from monicsums.ground.tables import INVERSES, OPPOSITES, POWERS, PRIMES, PRODUCTS, SUMS

FIELDS = (2, 3, 4, 5, 7, 8, 9)


def is_field(value):
    """Whether the value is the number of a field."""
    return is_integer(value) and value in FIELDS


def check_field(q):
    """Raise InvalidField unless q is the number of a field."""
    if not is_field(q):
        raise InvalidField("not the number of a field")


def prime_of(q):
    """The prime p of which q is a power."""
    check_field(q)
    return PRIMES[q]


def power_of(q):
    """The f for which q is p to the power f."""
    check_field(q)
    return POWERS[q]


def is_element(q, value):
    """Whether the value is an element of the field."""
    check_field(q)
    return is_between(value, 0, q - 1)


def check_element(q, value):
    """Raise InvalidNumber unless the value is an element of the field."""
    if not is_element(q, value):
        raise InvalidNumber(value)


def check_other_than_zero(element):
    """Raise Refused for the element 0."""
    if element == 0:
        raise Refused(("zero",))


def element_sum(q, one, other):
    """The sum of two elements."""
    check_element(q, one)
    check_element(q, other)
    return SUMS[q][one][other]


def element_less(q, one, other):
    """The first element less the second one."""
    check_element(q, one)
    check_element(q, other)
    return SUMS[q][one][OPPOSITES[q][other]]


def element_product(q, one, other):
    """The product of two elements."""
    check_element(q, one)
    check_element(q, other)
    return PRODUCTS[q][one][other]


def element_inverse(q, element):
    """The element whose product with this one is 1."""
    check_element(q, element)
    check_other_than_zero(element)
    return INVERSES[q][element]


def repeated_product(q, element, k):
    """The product of the element with itself, k times; nothing is checked."""
    if k == 0:
        return 1
    if element == 0:
        return 0
    made = 1
    # The power q - 1 of an element other than 0 is 1.
    for _ in range(k % (q - 1)):
        made = PRODUCTS[q][made][element]
    return made


def element_power(q, element, k):
    """The k-th power of an element; 1 for k = 0."""
    check_element(q, element)
    check_from(k, 0)
    return repeated_product(q, element, k)


def element_order(q, element):
    """The least integer from 1 on for which the power of the element is 1."""
    check_element(q, element)
    check_other_than_zero(element)
    order = 1
    made = element
    while made != 1:
        made = PRODUCTS[q][made][element]
        order += 1
    return order


def element_maker(q):
    """The least element whose order is q - 1."""
    check_field(q)
    return min([element for element in range(1, q) if element_order(q, element) == q - 1])


def element_root(q, element):
    """The element whose p-th power is this one."""
    check_element(q, element)
    return root_of(q, element)


def root_of(q, element):
    """The element whose p-th power is this one; nothing is checked."""
    # The q-th power of the element is the element, so its power q / p is the root.
    return repeated_product(q, element, q // PRIMES[q])

"""All partings of an integer, if they are not too many; nothing is checked."""

from monicsums.digits.rows import digit_row
from monicsums.errors import TooMany
from monicsums.ground.integers import whole_power
from monicsums.ground.tables import PRIMES
from monicsums.sums.classes import NEEDS, WEIGHTS
from monicsums.sums.greatest import less_digit, spare_sums


def does_fit(q, need, room, spare):
    """Whether digits with the sums `need`, by classes, fit into the room, and take no more than is spared."""
    left = spare
    for many, most, weights in zip(need, room, WEIGHTS[q]):
        if many > most:
            return False
        left = less_digit(left, weights, many)
    return min(left) >= 0


def does_go_on(q, head, room, spare):
    """Whether lower digits, with at most the sums `room` by classes, make of the head a multiple of q - 1.

    The multiple is above 0, and the lower digits take no more of the shift sums than is spared.
    """
    rest = -head % (q - 1)
    if head > 0 and rest == 0:
        return min(spare) >= 0
    return any([does_fit(q, need, room, spare) for need in NEEDS[q][rest]])


def longer_heads(q, heads, at, digit, room):
    """The heads with each digit from 0 to this one at the place `at`, if they go on to a member."""
    weights = WEIGHTS[q][at % len(WEIGHTS[q])]
    worth = whole_power(PRIMES[q], at)
    found = []
    for head, spare in heads:
        for many in range(digit + 1):
            longer = head + many * worth
            left = less_digit(spare, weights, many)
            if does_go_on(q, longer, room, left):
                found.append((longer, left))
    return found


def first_members(q, k, after, most):
    """The ascending list of the first members of the partings of k with `after` more ahead of the last one.

    Raises TooMany if there are more than `most`: each head that is kept goes on to one member at least.
    """
    row = digit_row(PRIMES[q], k)
    many = len(WEIGHTS[q])
    room = [sum(row[t::many]) for t in range(many)]
    heads = [(0, spare_sums(q, row, after))]
    for at in range(len(row) - 1, -1, -1):
        if row[at] > 0:
            room[at % many] = room[at % many] - row[at]
            heads = longer_heads(q, heads, at, row[at], room)
            if len(heads) > most:
                raise TooMany(most)
    return [head for head, _ in heads]


def with_next_members(q, begun, after, most):
    """The begun partings with each next member; each has its members and what they leave of k."""
    found = []
    for members, left in begun:
        for member in first_members(q, left, after, most):
            found.append((members + (member,), left - member))
        if len(found) > most:
            raise TooMany(most)
    return found


def listed_partings(q, d, k, most):
    """The ascending list of all partings of k for d, of which there is one; TooMany for more than `most`."""
    begun = [((), k)]
    # By [5.3] each begun parting goes on to at least one, so there are never more begun ones than partings.
    for after in range(d - 1, -1, -1):
        begun = with_next_members(q, begun, after, most)
    return [members + (left,) for members, left in begun]

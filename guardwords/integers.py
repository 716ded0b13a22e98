"""Letter sets of integers: ("integers", (low, below), members, (high, above))."""

from guardwords.letters import integer_of_rank, integer_rank


def has_integer(letters, number):
    """Whether the integer is in the set."""
    low, below = letters[1]
    high, above = letters[3]
    if number <= low:
        return below[(low - number) % len(below)]
    if number >= high:
        return above[(number - high) % len(above)]
    return number in letters[2]


def is_finite(letters):
    """Whether the set has finitely many integers."""
    return not any(letters[1][1]) and not any(letters[3][1])


def next_integer(letters, at):
    """The first integer of the set that has at least so many integers before it, or None if there is none."""
    low, below = letters[1]
    high, above = letters[3]
    furthest = max(high, -low, abs(integer_of_rank(at))) + max(len(below), len(above))
    for place in range(at, integer_rank(-furthest) + 1):
        number = integer_of_rank(place)
        if has_integer(letters, number):
            return number
    return None


def integers_before(letters, number):
    """How many integers of the set are before the integer."""
    return sum([1 for at in range(integer_rank(number)) if has_integer(letters, integer_of_rank(at))])


def near(number, bound, period):
    """The integer nearest to 0 that stands for this one where, beyond the bound, integers come back with the period."""
    if abs(number) <= bound + period:
        return number
    # The integers come back on each side on its own.
    nearest = bound + 1 + (abs(number) - bound - 1) % period
    return nearest if number > 0 else -nearest


def integer_set(met, bound, period):
    """The letter set of some integers in its one form.

    met tells of each integer from -(bound + period) to bound + period whether it is in the set. Beyond bound, on both
    sides, what it tells comes back with the period.
    """
    size = _shortest([met[bound + 1 + k] for k in range(period)])
    high = bound + 1
    while high > 0 and met[high - 1] == met[high - 1 + size]:
        high -= 1
    above = tuple([met[high + k] for k in range(size)])
    size = _shortest([met[-(bound + 1 + k)] for k in range(period)])
    low = -(bound + 1)
    while low < -1 and met[low + 1] == met[low + 1 - size]:
        low += 1
    below = tuple([met[low - k] for k in range(size)])
    members = tuple([number for number in range(low + 1, high) if met[number]])
    return ("integers", (low, below), members, (high, above))


def _shortest(truths):
    """The least length with which the truths, read round and round, come back."""
    many = len(truths)
    for size in range(1, many):
        if truths == truths[:size] * (many // size):
            return size
    return many

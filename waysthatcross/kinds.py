"""What kinds of values any object is asked for."""


def is_list(thing):
    """Return whether the thing is a list or a tuple."""
    return isinstance(thing, (list, tuple))


def is_integer(thing):
    """Return whether the thing is an integer and no bool."""
    return isinstance(thing, int) and not isinstance(thing, bool)


def is_number(thing):
    """Return whether the thing is an integer from 0 on."""
    return isinstance(thing, int) and not isinstance(thing, bool) and thing >= 0


def is_below(thing, end):
    """Return whether the thing is a number below the end."""
    return is_number(thing) and thing < end


def is_row_below(thing, end):
    """Return whether the thing is a list, perhaps empty, of unlike numbers below the end."""
    # Only behind the first test are all the things in it such as a set may have.
    return is_list(thing) and all([is_below(part, end) for part in thing]) and len(set(thing)) == len(thing)


def is_pair_below(thing, end):
    """Return whether the thing is a list of two unlike numbers below the end."""
    return is_row_below(thing, end) and len(thing) == 2


def is_integers(thing, many):
    """Return whether the thing is a list of just so many integers."""
    return is_list(thing) and len(thing) == many and all([is_integer(part) for part in thing])


def is_numbers(thing, many):
    """Return whether the thing is a list of just so many numbers."""
    return is_list(thing) and len(thing) == many and all([is_number(part) for part in thing])


def is_pairs(thing, many):
    """Return whether the thing is a list of just so many pairs of numbers."""
    return is_list(thing) and len(thing) == many and all([is_numbers(part, 2) for part in thing])


def is_sendings(thing):
    """Return whether the thing is a list of quadruples (way, first, last, rate) such as sendings have, of any way."""
    return is_list(thing) and all([_is_sending(part) for part in thing])


def _is_sending(thing):
    return is_numbers(thing, 4) and thing[2] >= thing[1] and thing[3] >= 1

"""What kinds of values any object is asked for."""


def is_list(thing):
    """Return whether the thing is a list or a tuple."""
    return isinstance(thing, (list, tuple))


def is_integer(thing):
    """Return whether the thing is an integer and no bool."""
    return isinstance(thing, int) and not isinstance(thing, bool)


def is_number(thing):
    """Return whether the thing is an integer from 0 on."""
    return is_integer(thing) and thing >= 0


def is_below(thing, end):
    """Return whether the thing is a number below the end."""
    return is_number(thing) and thing < end


def is_row_below(thing, end):
    """Return whether the thing is a list, perhaps empty, of unlike numbers below the end."""
    # Only behind the first test are all the things in it such as a set may have.
    return is_list(thing) and all([is_below(part, end) for part in thing]) and len(set(thing)) == len(thing)


def is_integers(thing, many):
    """Return whether the thing is a list of just so many integers."""
    return is_list(thing) and len(thing) == many and all([is_integer(part) for part in thing])


def is_numbers(thing, many):
    """Return whether the thing is a list of just so many numbers."""
    return is_list(thing) and len(thing) == many and all([is_number(part) for part in thing])

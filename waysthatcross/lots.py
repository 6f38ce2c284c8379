"""Lots of gates as bits, which are a whole number with a bit for each gate, and the rooms of lots."""


def bits_of(gates):
    """Return the bits of a lot."""
    bits = 0
    for gate in gates:
        bits = bits | (1 << gate)
    return bits


def ways_as_bits(book):
    """Return the bits of the ways of a book, which are kept with it."""
    kept = book.found("bits")
    if kept is None:
        kept = book.keep("bits", [bits_of(row) for row in book.rows()])
    return kept


def gates_of(bits):
    """Return the ascending lot of these bits."""
    return [gate for gate in range(bits.bit_length()) if bits >> gate & 1]


def has_all(bits, others):
    """Return whether a lot has all gates of another one, both told by their bits."""
    return bits & others == others


def has_one_of(bits, lots):
    """Return whether a lot has all gates of one of the lots, told by their bits."""
    for lot in lots:
        if bits & lot == lot:
            return True
    return False


def room_in(rooms, lot):
    """Return the sum of the rooms of the gates of a lot."""
    return sum([rooms[gate] for gate in lot])


def least_room_in(rooms, lots):
    """Return the least room of the lots, None if there are none."""
    return min([room_in(rooms, lot) for lot in lots], default=None)

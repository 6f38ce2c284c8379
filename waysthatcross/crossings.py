"""Where two ways cross, what lies within, and whether a book is closed."""

from waysthatcross.asked import ask_book, ask_lot
from waysthatcross.errors import BadGate, BadWay, NotClosed
from waysthatcross.kinds import is_below
from waysthatcross.lots import bits_of, has_all


def lack(book):
    """Return the first triple (one, gate, other) of a crossing that no way lies within, None if there is none."""
    ask_book(book)
    rows = book.ways()
    ways = [bits_of(row) for row in rows]
    seen = set()
    for triple, lot in crossing_lots(rows).items():
        # Many crossings have the same lot; each lot is looked through once.
        if lot not in seen:
            if not any([has_all(lot, way) for way in ways]):
                return triple
            seen.add(lot)
    return None


def crossing_lots(rows):
    """Return the bits of the lots of all crossings, by their triples (one, gate, other), which are ascending."""
    heads = [_bits_up_to_each(row) for row in rows]
    tails = [_bits_up_to_each(row[::-1]) for row in rows]
    lots = {}
    for one, row in enumerate(rows):
        for gate in sorted(row):
            for other, tail in enumerate(tails):
                if other != one and gate in tail:
                    lots[(one, gate, other)] = heads[one][gate] | tail[gate]
    return lots


def _bits_up_to_each(row):
    """Return, by the gates of a row, the bits of the gates up to this one, with it."""
    bits = 0
    found = {}
    for gate in row:
        bits = bits | (1 << gate)
        found[gate] = bits
    return found


def ask_closed(book):
    """Raise NotClosed for a book that is not closed."""
    triple = lack(book)
    if triple is not None:
        one, gate, other = triple
        raise NotClosed(one, gate, other)


def crossing(book, one, gate, other):
    """Return the ascending lot of the gates of one up to gate and those of other from gate on."""
    ahead, rest = _parts_of_crossing(book, one, gate, other)
    return sorted(set(ahead + rest))


def _parts_of_crossing(book, one, gate, other):
    """Return the gates of one up to gate, with it, and those of other from gate on."""
    ask_book(book)
    rows = book.ways()
    if not is_below(one, len(rows)):
        raise BadWay(one)
    if not is_below(other, len(rows)) or other == one:
        raise BadWay(other)
    # True is in [1], so what is no gate at all is told apart first.
    if not is_below(gate, book.gates()) or gate not in rows[one] or gate not in rows[other]:
        raise BadGate(gate)
    return rows[one][:rows[one].index(gate) + 1], rows[other][rows[other].index(gate):]


def within(book, lot):
    """Return the ascending list of the ways that have no gate outside the lot."""
    ask_book(book)
    ask_lot(book, lot)
    return [way for way, row in enumerate(book.ways()) if all([gate in lot for gate in row])]


def along(book, one, gate, other):
    """Return the ascending list of the ways that go along a crossing."""
    ahead, rest = _parts_of_crossing(book, one, gate, other)
    return [way for way, row in enumerate(book.ways()) if _goes_along(row, ahead, rest)]


def _goes_along(row, ahead, rest):
    """Return whether the row is some gates ahead, in their order, and behind them some of the rest, in theirs."""
    for many in range(len(row) + 1):
        if _is_some_of(row[:many], ahead) and _is_some_of(row[many:], rest):
            return True
    return False


def _is_some_of(part, row):
    """Return whether the part is some gates of the row, perhaps none, in the row's order."""
    return [gate for gate in row if gate in part] == part

"""Where two ways cross, what lies within, and whether a book is closed."""

from waysthatcross.asked import ask_book, ask_lot
from waysthatcross.errors import BadGate, BadWay, NotClosed
from waysthatcross.kinds import is_below
from waysthatcross.lots import has_all, has_one_of, ways_as_bits


def lack(book):
    """Return the first triple (one, gate, other) of a crossing that no way lies within, None if there is none."""
    ask_book(book)
    kept = book.found("lack")
    if kept is None:
        # In a tuple, so that None may be kept, too.
        kept = book.keep("lack", (_first_lack(book.rows(), ways_as_bits(book)),))
    return kept[0]


def _first_lack(rows, ways):
    heads = _firsts_with_bits(rows)
    tails = _firsts_with_bits([row[::-1] for row in rows])
    # A way lies within its own gates; each other lot, which many crossings may have, is looked through once.
    known = {way: True for way in ways}
    triples = []
    for gate, ahead in heads.items():
        for head, one in ahead.items():
            for tail, other in tails[gate].items():
                lot = head | tail
                if lot not in known:
                    known[lot] = has_one_of(lot, ways)
                # Where one and other are the same way, it lies within: no such triple is told.
                if not known[lot]:
                    triples.append((one, gate, other))
    return min(triples, default=None)


def _firsts_with_bits(rows):
    """Return, by gates, of each lot of the gates up to it on some row its bits and the first row with it."""
    firsts = {}
    for number, row in enumerate(rows):
        bits = 0
        for gate in row:
            bits = bits | (1 << gate)
            firsts.setdefault(gate, {}).setdefault(bits, number)
    return firsts


def ask_closed(book):
    """Raise NotClosed for a book that is not closed."""
    triple = lack(book)
    if triple is not None:
        one, gate, other = triple
        raise NotClosed(one, gate, other)


def meetings(book):
    """Return, of a book, where two ways have a gate in common, and what lies within the crossings there.

    The former are ascending (one, gate, other, there, back), one less than other: the gate and the numbers of the lots
    of both crossings. The latter are, by these numbers, the ways within.
    """
    kept = book.found("meetings")
    if kept is None:
        kept = book.keep("meetings", _meetings_of(book.rows(), ways_as_bits(book)))
    return kept


def _meetings_of(rows, ways):
    heads = [_bits_up_to_each(row) for row in rows]
    tails = [_bits_up_to_each(row[::-1]) for row in rows]
    numbers = {}
    told = []
    for one, row in enumerate(rows):
        for gate in sorted(row):
            for other in range(one + 1, len(rows)):
                if gate in tails[other]:
                    there = numbers.setdefault(heads[one][gate] | tails[other][gate], len(numbers))
                    back = numbers.setdefault(heads[other][gate] | tails[one][gate], len(numbers))
                    told.append((one, gate, other, there, back))
    return (told, [[way for way, bits in enumerate(ways) if has_all(lot, bits)] for lot in numbers])


def _bits_up_to_each(row):
    """Return, by the gates of a row, the bits of the gates up to this one, with it."""
    bits = 0
    found = {}
    for gate in row:
        bits = bits | (1 << gate)
        found[gate] = bits
    return found


def crossing(book, one, gate, other):
    """Return the ascending lot of the gates of one up to gate and those of other from gate on."""
    ahead, rest = _parts_of_crossing(book, one, gate, other)
    return sorted(set(ahead + rest))


def _parts_of_crossing(book, one, gate, other):
    """Return the gates of one up to gate, with it, and those of other from gate on."""
    ask_book(book)
    rows = book.rows()
    if not is_below(one, len(rows)):
        raise BadWay(one)
    if not is_below(other, len(rows)) or other == one:
        raise BadWay(other)
    # True is in [1], so what is no gate at all is told apart first.
    if not is_below(gate, book.gates()) or gate not in rows[one] or gate not in rows[other]:
        raise BadGate(gate)
    return rows[one][:rows[one].index(gate) + 1], rows[other][rows[other].index(gate):]


def within(book, lot):
    """Return the ascending list of the ways that have no gate outside the lot."""
    ask_book(book)
    ask_lot(book, lot)
    return [way for way, row in enumerate(book.rows()) if all([gate in lot for gate in row])]


def along(book, one, gate, other):
    """Return the ascending list of the ways that go along a crossing."""
    ahead, rest = _parts_of_crossing(book, one, gate, other)
    return [way for way, row in enumerate(book.rows()) if _goes_along(row, ahead, rest)]


def _goes_along(row, ahead, rest):
    """Return whether the row is some gates ahead, in their order, and behind them some of the rest, in theirs."""
    for many in range(len(row) + 1):
        if _is_some_of(row[:many], ahead) and _is_some_of(row[many:], rest):
            return True
    return False


def _is_some_of(part, row):
    """Return whether the part is some gates of the row, perhaps none, in the row's order."""
    return [gate for gate in row if gate in part] == list(part)

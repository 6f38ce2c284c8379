"""Gains of ways, and whether crossing lessens them."""

from waysthatcross.asked import ask_book, ask_gains, ask_plan
from waysthatcross.crossings import ask_closed, crossing_lots
from waysthatcross.lots import bits_of, has_all


def loses(book, gains):
    """Return the first triple (one, gate, other) by which gains of a closed book do not fit, None if they fit."""
    ask_book(book)
    ask_gains(book, gains)
    ask_closed(book)
    rows = book.ways()
    lots = crossing_lots(rows)
    bests = _bests(rows, gains, list(lots.values()))
    for triple, lot in lots.items():
        one, gate, other = triple
        if gains[one] > 0 and gains[other] > 0:
            back = lots[(other, gate, one)]
            if bests[lot] + bests[back] < gains[one] + gains[other]:
                return triple
    return None


def _bests(rows, gains, lots):
    """Return the best of each lot, told by its bits: the greatest gain of a way within, or 0 if that is below."""
    ways = [bits_of(row) for row in rows]
    bests = {}
    for lot in lots:
        if lot not in bests:
            bests[lot] = max([0] + [gains[way] for way, bits in enumerate(ways) if has_all(lot, bits)])
    return bests


def gain(book, gains, plan):
    """Return the sum, over the ways, of how many go it times its gain."""
    ask_book(book)
    ask_gains(book, gains)
    ask_plan(book, plan)
    return sum([many * worth for many, worth in zip(plan, gains)])

"""Cuts: lots of gates that every way meets."""

from waysthatcross.asked import ask_book, ask_lot, ask_many, ask_rooms
from waysthatcross.crossings import ask_closed
from waysthatcross.kinds import is_row_below
from waysthatcross.lots import gates_of, has_one_of, room_in, ways_as_bits


def unmet(book, lot):
    """Return the first way that the lot does not meet, None for a cut."""
    ask_book(book)
    ask_lot(book, lot)
    return _first_unmet(book.rows(), lot)


def _first_unmet(rows, lot):
    for way, row in enumerate(rows):
        if not any([gate in lot for gate in row]):
            return way
    return None


def is_cut(book, thing):
    """Return whether the thing is a lot that is a cut."""
    ask_book(book)
    return is_row_below(thing, book.gates()) and _first_unmet(book.rows(), thing) is None


def small_cuts(book):
    """Return the ascending list of the cuts, ascending each, of which no gate can be left out."""
    ask_book(book)
    return [list(cut) for cut in kept_cuts(book)]


def kept_cuts(book):
    """Return the small cuts of a book as tuples, which are kept with it."""
    kept = book.found("cuts")
    if kept is None:
        # The shortest ways ahead: so fewer cuts come up on the way that are none in the end.
        ways = sorted(zip([len(row) for row in book.rows()], ways_as_bits(book)))
        kept = book.keep("cuts", cuts_of([way for _, way in ways]))
    return kept


def cuts_of(ways):
    """Return the ascending list of the small cuts of ways, told by their bits, as ascending tuples."""
    cuts = [0]
    for way in ways:
        unmet_by = [cut for cut in cuts if cut & way == 0]
        if len(unmet_by) > 0:
            cuts = _small_cuts_with([cut for cut in cuts if cut & way != 0], unmet_by, way)
    return sorted([tuple(gates_of(cut)) for cut in cuts])


def _small_cuts_with(meet, unmet_by, way):
    """Return what the small cuts that meet one way more, and those by which it is unmet, become with it."""
    # A wider cut can only have a gate too many where it has all of one that met the way, by just this gate.
    others = {}
    for cut in meet:
        shared = cut & way
        others.setdefault(shared, []).append(cut ^ shared)
    wider = []
    rest = way
    while rest > 0:
        bit = rest & -rest
        rest -= bit
        smaller = others.get(bit, [])
        wider.extend([cut | bit for cut in unmet_by if not has_one_of(cut, smaller)])
    return meet + wider


def room_of(book, rooms, lot):
    """Return the sum of the rooms of the lot."""
    ask_book(book)
    ask_rooms(book, rooms)
    ask_lot(book, lot)
    return room_in(rooms, lot)


def cut_below(book, rooms, many):
    """Return a cut of a closed book with less room than many, None if there is none."""
    ask_book(book)
    ask_rooms(book, rooms)
    ask_many(many)
    ask_closed(book)
    # Any cut with less room has a small one in it, of no more room.
    for cut in kept_cuts(book):
        if room_in(rooms, cut) < many:
            return list(cut)
    return None

"""Cuts: lots of gates that every way meets."""

from waysthatcross.asked import ask_book, ask_lot, ask_many, ask_rooms
from waysthatcross.crossings import ask_closed
from waysthatcross.kinds import is_row_below
from waysthatcross.lots import bits_of, gates_of, has_all, room_in


def unmet(book, lot):
    """Return the first way that the lot does not meet, None for a cut."""
    ask_book(book)
    ask_lot(book, lot)
    return _first_unmet(book.ways(), lot)


def _first_unmet(rows, lot):
    for way, row in enumerate(rows):
        if not any([gate in lot for gate in row]):
            return way
    return None


def is_cut(book, thing):
    """Return whether the thing is a lot that is a cut."""
    ask_book(book)
    return is_row_below(thing, book.gates()) and _first_unmet(book.ways(), thing) is None


def small_cuts(book):
    """Return the ascending list of the cuts, ascending each, of which no gate can be left out."""
    ask_book(book)
    cuts = [0]
    for row in book.ways():
        cuts = _small_cuts_with(cuts, row)
    return sorted([gates_of(cut) for cut in cuts])


def _small_cuts_with(cuts, row):
    """Return what the small cuts of some ways, as bits, become with one way more."""
    way = bits_of(row)
    meet = [cut for cut in cuts if cut & way != 0]
    wider = [cut | (1 << gate) for cut in cuts if cut & way == 0 for gate in row]
    # A wider one can only have a gate too many where it has all of one that met the way already.
    return meet + [cut for cut in wider if not any([has_all(cut, other) for other in meet])]


def room_of(book, rooms, lot):
    """Return the sum of the rooms of the lot."""
    ask_book(book)
    ask_rooms(book, rooms)
    ask_lot(book, lot)
    return room_in(rooms, lot)


def cut_below(book, rooms, many):
    """Return a cut of a closed book with less room than many, None if there is none."""
    ask_book(book)
    ask_rooms(book, rooms)
    ask_many(many)
    ask_closed(book)
    # Any cut with less room has a small one in it, of no more room.
    for cut in small_cuts(book):
        if room_in(rooms, cut) < many:
            return cut
    return None

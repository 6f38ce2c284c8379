"""The cuts of least room, and which of them is ahead of which."""

from waysthatcross.asked import ask_book, ask_rooms_from_one
from waysthatcross.crossings import ask_closed
from waysthatcross.cuts import kept_cuts
from waysthatcross.errors import BadCut
from waysthatcross.kinds import is_row_below
from waysthatcross.lots import room_in
from waysthatcross.plans import best_plan


def least_cuts(book, rooms):
    """Return the ascending list of the cuts of least room, ascending each, of a closed book."""
    _ask(book, rooms)
    return [list(cut) for cut in _least(book, rooms)]


def _ask(book, rooms):
    ask_book(book)
    ask_rooms_from_one(book, rooms)
    ask_closed(book)


def _least(book, rooms):
    """Return the ascending list of the cuts of least room: no gate can be left out, since all have room."""
    cuts = kept_cuts(book)
    sums = [room_in(rooms, cut) for cut in cuts]
    least = min(sums)
    return [cut for cut, room in zip(cuts, sums) if room == least]


def firsts(book, rooms, one, other):
    """Return the ascending list of the first gates of either cut on the ways that a plan with the most goes."""
    _ask_cuts(book, rooms, one, other)
    return _first_gates(_gone(book, rooms), [*one, *other])


def lasts(book, rooms, one, other):
    """Return the ascending list of the last gates of either cut on the ways that a plan with the most goes."""
    _ask_cuts(book, rooms, one, other)
    return _last_gates(_gone(book, rooms), [*one, *other])


def is_ahead(book, rooms, one, other):
    """Return whether the gates of one are just the firsts of both."""
    # The firsts come ahead: only what they take for a cut can be sorted.
    told = firsts(book, rooms, one, other)
    return sorted(one) == told


def _ask_cuts(book, rooms, one, other):
    _ask(book, rooms)
    cuts = _least(book, rooms)
    for cut in (one, other):
        if not is_row_below(cut, book.gates()) or tuple(sorted(cut)) not in cuts:
            raise BadCut(cut)


def _gone(book, rooms):
    """Return the rows of the ways that a plan with the most goes."""
    return [row for row, many in zip(book.rows(), best_plan(book, rooms)) if many > 0]


def _first_gates(rows, gates):
    """Return the ascending list of the gates that are on some row the first of these."""
    return sorted({[gate for gate in row if gate in gates][0] for row in rows})


def _last_gates(rows, gates):
    """Return the ascending list of the gates that are on some row the last of these."""
    return sorted({[gate for gate in row if gate in gates][-1] for row in rows})


def nearest(book, rooms):
    """Return the firsts of all least cuts of a closed book, taken two by two in whatever order."""
    _ask(book, rooms)
    # On a way that is gone each least cut has just one gate: what is left at last is the first of all of them.
    return _first_gates(_gone(book, rooms), _of_any(book, _least(book, rooms)))


def farthest(book, rooms):
    """Return the lasts of all least cuts of a closed book, taken two by two in whatever order."""
    _ask(book, rooms)
    return _last_gates(_gone(book, rooms), _of_any(book, _least(book, rooms)))


def _of_any(book, cuts):
    return [gate for gate in range(book.gates()) if any([gate in cut for cut in cuts])]


def helping(book, rooms):
    """Return the ascending list of the gates, of a closed book, at which one room more lets one more through."""
    _ask(book, rooms)
    cuts = _least(book, rooms)
    return [gate for gate in range(book.gates()) if all([gate in cut for cut in cuts])]


def hurting(book, rooms):
    """Return the ascending list of the gates, of a closed book, at which one room less lets one fewer through."""
    _ask(book, rooms)
    return _of_any(book, _least(book, rooms))

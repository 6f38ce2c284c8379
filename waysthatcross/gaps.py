"""Books that need not be closed: how much more the least room of a cut is than the greatest sum of a plan."""

from waysthatcross.asked import ask_book, ask_rooms
from waysthatcross.changed import least_ways
from waysthatcross.crossings import lack
from waysthatcross.cuts import cuts_of, kept_cuts
from waysthatcross.errors import BadTop
from waysthatcross.kinds import is_number
from waysthatcross.lots import least_room_in, room_in, ways_as_bits


def greatest(book, rooms):
    """Return the greatest sum of a plan that fits."""
    ask_book(book)
    ask_rooms(book, rooms)
    if _has_no_gap(book):
        return least_room_in(rooms, kept_cuts(book))
    return _greatest_from(_steps(book), 0, list(rooms), {})


def _has_no_gap(book):
    """Return whether it is plain that a book has no gap: it is closed, or its least ways are."""
    return lack(_least(book)) is None


def least_room(book, rooms):
    """Return the least room of a cut."""
    ask_book(book)
    ask_rooms(book, rooms)
    return least_room_in(rooms, kept_cuts(book))


def gap(book, rooms):
    """Return how much more the least room of a cut is than the greatest sum of a plan that fits."""
    return least_room(book, rooms) - greatest(book, rooms)


def _least(book):
    """Return the book of the ways that no other way makes needless: it has as great plans, and the same cuts."""
    kept = book.found("least")
    if kept is None:
        kept = book.keep("least", least_ways(book))
    return kept


def _steps(book):
    """Return, for each way that is needed, its row and the small cuts of it and of those behind it."""
    kept = book.found("steps")
    if kept is None:
        ways = ways_as_bits(_least(book))
        kept = book.keep("steps", [(row, cuts_of(ways[at:])) for at, row in enumerate(_least(book).rows())])
    return kept


def _greatest_from(steps, at, left, known):
    """Return the greatest sum of a plan of the ways from this step on that fits into what is left."""
    if at == len(steps):
        return 0
    state = (at, tuple(left))
    if state not in known:
        row, cuts = steps[at]
        enough = least_room_in(left, cuts)
        best = 0
        times = min([left[gate] for gate in row])
        # No plan has more than the least room of a cut: what reaches it need not be bettered.
        while times >= 0 and best < enough:
            rest = [room - times if gate in row else room for gate, room in enumerate(left)]
            best = max(best, times + _greatest_from(steps, at + 1, rest, known))
            times -= 1
        known[state] = best
    return known[state]


def gap_rooms(book, top):
    """Return the first list of rooms, none above top, with a gap above 0, None if there is none."""
    ask_book(book)
    if not is_number(top):
        raise BadTop(top)
    if _has_no_gap(book):
        return None
    return _first_with_gap(book.gates(), _least(book).rows(), kept_cuts(book), top)


def _first_with_gap(gates, rows, cuts, top):
    """Return the first list of rooms with a gap, going through all of them, None if there is none."""
    # What is in no way has no room in the first list.
    used = [gate for gate in range(gates) if any([gate in row for row in rows])]
    steps = _numbers_of_ways(rows, used, top)
    rooms = [0] * gates
    # The greatest sums by the numbers of the lists; a list with one room less at each gate of a way stands ahead.
    sums = []
    tight = cuts[0]
    while rooms is not None:
        best = max([1 + sums[len(sums) - step] for row, step in zip(rows, steps)
                    if min([rooms[gate] for gate in row]) > 0], default=0)
        sums.append(best)
        # Often the cut that was tight ahead is so here, too.
        if room_in(rooms, tight) > best:
            others = [cut for cut in cuts if room_in(rooms, cut) == best]
            if len(others) == 0:
                return rooms
            tight = others[0]
        rooms = _next_rooms(rooms, used, top)
    return None


def _numbers_of_ways(rows, used, top):
    """Return, by ways, how far ahead the list of rooms stands that has one less at each gate of the way."""
    steps = {}
    step = 1
    for gate in used[::-1]:
        steps[gate] = step
        step *= top + 1
    return [sum([steps[gate] for gate in row]) for row in rows]


def _next_rooms(rooms, used, top):
    """Return the next list of rooms of the used gates, none above top, None behind the last one."""
    told = list(rooms)
    for gate in used[::-1]:
        if told[gate] < top:
            told[gate] += 1
            return told
        told[gate] = 0
    return None

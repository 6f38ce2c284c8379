"""Webs of gates that stand right behind one another."""

from waysthatcross.asked import ask_book
from waysthatcross.lots import bits_of, has_one_of, ways_as_bits


def neighbours(book):
    """Return the ascending list of the pairs of gates of which the latter stands right behind the former on a way."""
    ask_book(book)
    return _neighbours_of(book.rows())


def _neighbours_of(rows):
    return sorted({(gate, after) for row in rows for gate, after in zip(row, row[1:])})


def stray(book):
    """Return the first trail on which no way has all its gates, None if there is none."""
    ask_book(book)
    rows, ways = book.rows(), ways_as_bits(book)
    behind = _all_behind(rows)
    ends = {row[-1] for row in rows}
    # Descending, as the last trail put aside is taken up first.
    trails = [[gate] for gate in sorted({row[0] for row in rows})[::-1]]
    seen = set()
    while len(trails) > 0:
        trail = trails.pop()
        state = (bits_of(trail), trail[-1])
        # How a trail can go on depends on its gates and its last one alone; none is stray that has a way's gates.
        if state not in seen and not has_one_of(state[0], ways):
            if trail[-1] in ends:
                return trail
            seen.add(state)
            trails.extend([trail + [after] for after in behind[trail[-1]] if after not in trail])
    return None


def _all_behind(rows):
    """Return, by gates of the rows, the descending list of the gates that stand right behind it on some row."""
    behind = {gate: [] for row in rows for gate in row}
    for gate, after in _neighbours_of(rows)[::-1]:
        behind[gate].append(after)
    return behind

"""Books of ways over gates."""

from waysthatcross.errors import BadGates, BadWays
from waysthatcross.kinds import is_list, is_number, is_row_below


class Book:
    """Some gates, and unlike ways through them, each a row of gates in an order of its own."""

    def __init__(self, gates, ways):
        if not is_number(gates):
            raise BadGates(gates)
        wrong = _first_wrong_way(gates, ways)
        if wrong is not None:
            raise BadWays(wrong)
        self._gates = gates
        # Tuples, so that no later change of the caller's lists reaches the book.
        self._ways = tuple([tuple(row) for row in ways])
        self._found = {}

    def gates(self):
        """Return how many gates there are."""
        return self._gates

    def ways(self):
        """Return the rows of the ways as new lists."""
        return [list(row) for row in self._ways]

    def rows(self):
        """Return the rows of the ways as tuples, which need no copies."""
        return self._ways

    def found(self, name):
        """Return what was kept under a name, None if nothing was."""
        return self._found.get(name)

    def keep(self, name, answer):
        """Keep, and return, what follows from the gates and ways alone: many questions to one book need the same."""
        self._found[name] = answer
        return answer

    def __eq__(self, other):
        return isinstance(other, Book) and self._gates == other._gates and self._ways == other._ways


def _first_wrong_way(gates, ways):
    """Return the index of the first thing that is no row or stood before, 0 for no list, None if all are right."""
    if not is_list(ways):
        return 0
    seen = set()
    for index, thing in enumerate(ways):
        if not is_row_below(thing, gates) or len(thing) == 0:
            return index
        row = tuple(thing)
        if row in seen:
            return index
        seen.add(row)
    return None

"""Objects and books that several tests use, and what the document says of books, told plainly."""

from itertools import combinations

from waysthatcross.books import Book
from waysthatcross.errors import BadWays

K_WAYS = [[0, 1, 2], [3, 1, 4, 5], [6, 4, 7], [0, 5], [3, 2], [3, 7], [6, 5]]


def k_book():
    return Book(9, K_WAYS)


def deep(kind, levels=45):
    """Return a list or a tuple of one thing, or a dict, so many levels deep."""
    thing = 0
    for _ in range(levels):
        thing = {0: thing} if kind is dict else kind([thing])
    return thing


def a_function():
    return 0


def any_objects():
    """Return objects of all the kinds that may be passed where any object may."""
    return [
        0, 1, -1, 7, 10 ** 30, -10 ** 30, True, False, "", "a", "012", None,
        [], [0], [[0]], [[0], [1]], (), (0,), ((0,), (1,)), {}, {0: 0}, {"gates": 1},
        a_function, len, Book(2, [[0]]), BadWays(0), [Book(1, []), None], [a_function, {0: "a"}],
        deep(list), deep(tuple), deep(dict),
    ]


def all_rows(gates):
    """Return all rows of these gates, in some order."""
    rows = [[]]
    for row in rows:
        rows.extend([row + [gate] for gate in range(gates) if gate not in row])
    return rows[1:]


def small_books(gates, most_ways):
    """Return all books of so many gates and no more ways, with the rows in one order and in the other."""
    rows = all_rows(gates)
    books = []
    for many in range(most_ways + 1):
        for ways in combinations(rows, many):
            books.append(Book(gates, list(ways)))
            if many > 1:
                books.append(Book(gates, list(ways)[::-1]))
    return books


def is_closed(book):
    """Return whether some way lies within each crossing."""
    ways = book.ways()
    for one in ways:
        for other in ways:
            for gate in one:
                if one is not other and gate in other:
                    lot = one[:one.index(gate) + 1] + other[other.index(gate):]
                    if not any(set(way) <= set(lot) for way in ways):
                        return False
    return True


def cuts(book):
    """Return the lots that every way meets, as sets."""
    gates = range(book.gates())
    lots = [set(lot) for many in range(book.gates() + 1) for lot in combinations(gates, many)]
    return [lot for lot in lots if all(lot & set(way) for way in book.ways())]


def least_room(book, rooms):
    """Return the least room of a cut; in a closed book the most is just as much. None if there is no cut."""
    return min([sum(rooms[gate] for gate in lot) for lot in cuts(book)], default=None)

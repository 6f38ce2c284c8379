"""Objects and books that several tests use, and what the document says of books, told plainly."""

from itertools import combinations

from waysthatcross.books import Book
from waysthatcross.errors import BadWays

K_WAYS = [[0, 1, 2], [3, 1, 4, 5], [6, 4, 7], [0, 5], [3, 2], [3, 7], [6, 5]]


def k_book():
    return Book(9, K_WAYS)


def deep(kind, levels=45):
    """Return a list or a tuple of one thing, or a dict, so many levels deep."""
    thing = 0
    for _ in range(levels):
        thing = {0: thing} if kind is dict else kind([thing])
    return thing


def a_function():
    return 0


def any_objects():
    """Return objects of all the kinds that may be passed where any object may."""
    return [
        0, 1, -1, 7, 10 ** 30, -10 ** 30, True, False, "", "a", "012", None,
        [], [0], [[0]], [[0], [1]], (), (0,), ((0,), (1,)), {}, {0: 0}, {"gates": 1},
        a_function, len, Book(2, [[0]]), BadWays(0), [Book(1, []), None], [a_function, {0: "a"}],
        deep(list), deep(tuple), deep(dict),
    ]


def all_rows(gates):
    """Return all rows of these gates, in some order."""
    rows = [[]]
    for row in rows:
        rows.extend([row + [gate] for gate in range(gates) if gate not in row])
    return rows[1:]


def small_books(gates, most_ways):
    """Return all books of so many gates and no more ways, with the rows in one order and in the other."""
    rows = all_rows(gates)
    books = []
    for many in range(most_ways + 1):
        for ways in combinations(rows, many):
            books.append(Book(gates, list(ways)))
            if many > 1:
                books.append(Book(gates, list(ways)[::-1]))
    return books


def crossing_lot(rows, one, gate, other):
    """Return the lot of a crossing as a set, by counting along the rows."""
    lot = set()
    for part in rows[one]:
        lot.add(part)
        if part == gate:
            break
    reached = False
    for part in rows[other]:
        reached = reached or part == gate
        if reached:
            lot.add(part)
    return lot


def first_lack(rows):
    """Return the first triple, ascending, of a crossing that no row lies within, by going through all triples."""
    gates = max([gate for row in rows for gate in row], default=-1) + 1
    for one in range(len(rows)):
        for gate in range(gates):
            for other in range(len(rows)):
                if one != other and gate in rows[one] and gate in rows[other]:
                    lot = crossing_lot(rows, one, gate, other)
                    if not any(lot.issuperset(row) for row in rows):
                        return (one, gate, other)
    return None


def is_closed(book):
    """Return whether some way lies within each crossing."""
    return first_lack(book.ways()) is None


def lots(book):
    """Return all lots of the book's gates, ascending each."""
    return [list(lot) for many in range(book.gates() + 1) for lot in combinations(range(book.gates()), many)]


def cuts(book):
    """Return the lots that every way meets, as sets."""
    return [set(lot) for lot in lots(book) if all(set(lot) & set(way) for way in book.ways())]


def least_room(book, rooms):
    """Return the least room of a cut; in a closed book the most is just as much. None if there is no cut."""
    return min([sum(rooms[gate] for gate in lot) for lot in cuts(book)], default=None)


def greatest_sum(ways, rooms):
    """Return the greatest sum of a plan that fits, by going through all of them."""
    if not ways:
        return 0
    sums = []
    for many in range(min(rooms[gate] for gate in ways[0]) + 1):
        left = [room - many if gate in ways[0] else room for gate, room in enumerate(rooms)]
        sums.append(many + greatest_sum(ways[1:], left))
    return max(sums)


def exactly(thing):
    """Return what tells a thing apart from all things of other kinds, within lists and tuples, too."""
    if type(thing) in (list, tuple):
        return (type(thing), [exactly(part) for part in thing])
    return (type(thing), thing)


def as_tuples(thing):
    """Return the thing with a tuple in each list's place."""
    return tuple([as_tuples(part) for part in thing]) if type(thing) in (list, tuple) else thing

"""Books made of one book or of two."""

from waysthatcross.asked import ask_book, ask_gate
from waysthatcross.books import Book
from waysthatcross.errors import Alone


def turned(book):
    """Return the book with each row back to front."""
    ask_book(book)
    return Book(book.gates(), [row[::-1] for row in book.ways()])


def struck(book, gate):
    """Return the book of the ways without the gate."""
    ask_book(book)
    ask_gate(book, gate)
    return Book(book.gates(), [row for row in book.ways() if gate not in row])


def freed(book, gate):
    """Return the book of the rows without the gate, of alike ones the first."""
    ask_book(book)
    ask_gate(book, gate)
    rows = [[part for part in row if part != gate] for row in book.ways()]
    for way, row in enumerate(rows):
        if len(row) == 0:
            raise Alone(way)
    return Book(book.gates(), _firsts_of_alike(rows))


def _firsts_of_alike(rows):
    seen = set()
    kept = []
    for row in rows:
        if tuple(row) not in seen:
            seen.add(tuple(row))
            kept.append(row)
    return kept


def least_ways(book):
    """Return the book without the ways that another way makes needless."""
    ask_book(book)
    rows = book.ways()
    return Book(book.gates(), [row for way, row in enumerate(rows) if not _is_needless(rows, way)])


def _is_needless(rows, way):
    """Return whether another way has fewer of this way's gates and no more, or one ahead has just them."""
    row = rows[way]
    for number, other in enumerate(rows):
        # Gates are unlike in a row, so a row that has all gates of one as long has just the same ones.
        if (len(other), number) < (len(row), way) and all([gate in row for gate in other]):
            return True
    return False


def behind(one, other):
    """Return the book of the rows of a way of one and, behind it, a way of other."""
    ask_book(one)
    ask_book(other)
    moved = _moved_ways(one, other)
    return Book(one.gates() + other.gates(), [row + further for row in one.ways() for further in moved])


def beside(one, other):
    """Return the book of the ways of one, then those of other."""
    ask_book(one)
    ask_book(other)
    return Book(one.gates() + other.gates(), one.ways() + _moved_ways(one, other))


def put_in(book, gate, other):
    """Return the book with the ways of other in the gate's place."""
    ask_book(book)
    ask_gate(book, gate)
    ask_book(other)
    moved = _moved_ways(book, other)
    rows = []
    for row in book.ways():
        rows.extend(_with_in_place(row, gate, moved))
    return Book(book.gates() + other.gates(), rows)


def _with_in_place(row, gate, others):
    """Return the rows that come of a row by each of the others in the gate's place."""
    if gate not in row:
        return [row]
    at = row.index(gate)
    return [row[:at] + other + row[at + 1:] for other in others]


def _moved_ways(one, other):
    """Return the ways of other with its gates behind those of one."""
    return [[gate + one.gates() for gate in row] for row in other.ways()]

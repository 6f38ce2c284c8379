"""[8.1], [8.2], [8.3], and [2.1], [2.2] where they speak of changed books."""

import inspect
import unittest

from tests.things import any_objects, cuts, is_closed, k_book, least_room, small_books
from waysthatcross import changed
from waysthatcross.books import Book
from waysthatcross.changed import behind, beside, freed, least_ways, put_in, struck, turned
from waysthatcross.errors import Alone, BadBook, BadGate

PARAMETERS = {
    "turned": ["book"],
    "struck": ["book", "gate"],
    "freed": ["book", "gate"],
    "least_ways": ["book"],
    "behind": ["one", "other"],
    "beside": ["one", "other"],
    "put_in": ["book", "gate", "other"],
}

NO_BOOKS = [thing for thing in any_objects() if not isinstance(thing, Book)]
# A book that is not closed: of the crossing 0, 1, 1 no way is within.
OPEN = Book(3, [[0, 1], [1, 2], [2, 0]])


def no_gates(gates):
    """Return things that are no gate where there are so many gates."""
    things = [thing for thing in any_objects() if type(thing) is not int or not 0 <= thing < gates]
    return things + [gates, gates + 1, -1, -gates, True, False, "0", None, [0], (0,)]


class Interface(unittest.TestCase):

    def test_names_and_parameters(self):
        for name, parameters in PARAMETERS.items():
            function = getattr(changed, name)
            self.assertEqual(function.__module__, "waysthatcross.changed")
            self.assertEqual(list(inspect.signature(function).parameters), parameters)

    def test_by_name(self):
        one, other = Book(2, [[0, 1]]), Book(1, [[0]])
        self.assertEqual(turned(book=one), turned(one))
        self.assertEqual(struck(gate=1, book=one), struck(one, 1))
        self.assertEqual(freed(gate=1, book=one), freed(one, 1))
        self.assertEqual(least_ways(book=one), least_ways(one))
        self.assertEqual(behind(other=other, one=one), behind(one, other))
        self.assertEqual(beside(other=other, one=one), beside(one, other))
        self.assertEqual(put_in(other=other, gate=1, book=one), put_in(one, 1, other))
        self.assertNotEqual(beside(one, other), beside(other, one))

    def test_books_passed_stay_as_they_are_and_lists_are_new(self):
        calls = [lambda one, two: turned(one), lambda one, two: struck(one, 8), lambda one, two: freed(one, 8),
                 lambda one, two: least_ways(one), behind, beside, lambda one, two: put_in(one, 1, two),
                 lambda one, two: behind(one, one), lambda one, two: put_in(one, 1, one)]
        for call in calls:
            one, two = k_book(), Book(3, [[0, 2], [1]])
            told = call(one, two)
            again = call(one, two)
            self.assertIs(type(told), Book)
            self.assertEqual(told, again)
            ways = told.ways()
            self.assertEqual({type(ways), *[type(row) for row in ways]}, {list})
            for row in told.ways():
                row.append(0)
            told.ways().clear()
            self.assertEqual(told.ways(), ways)
            self.assertEqual(told, again)
            self.assertEqual(one, k_book())
            self.assertEqual(two, Book(3, [[0, 2], [1]]))


class Turned(unittest.TestCase):

    def test_k(self):
        self.assertEqual(turned(k_book()),
                         Book(9, [[2, 1, 0], [5, 4, 1, 3], [7, 4, 6], [5, 0], [2, 3], [7, 3], [5, 6]]))
        self.assertEqual(turned(turned(k_book())), k_book())

    def test_edges(self):
        self.assertEqual(turned(Book(0, [])), Book(0, []))
        self.assertEqual(turned(Book(3, [])), Book(3, []))
        self.assertEqual(turned(Book(2, [[1], [0]])), Book(2, [[1], [0]]))
        self.assertEqual(turned(OPEN), Book(3, [[1, 0], [2, 1], [0, 2]]))
        self.assertEqual(turned(Book(2, [[0, 1], [1, 0]])), Book(2, [[1, 0], [0, 1]]))

    def test_small_books(self):
        for book in small_books(3, 2):
            self.assertEqual(turned(book), Book(3, [list(reversed(row)) for row in book.ways()]))


class Struck(unittest.TestCase):

    def test_k(self):
        self.assertEqual(struck(k_book(), 4), Book(9, [[0, 1, 2], [0, 5], [3, 2], [3, 7], [6, 5]]))
        self.assertEqual(struck(k_book(), 8), k_book())
        self.assertEqual(struck(k_book(), 0), Book(9, [[3, 1, 4, 5], [6, 4, 7], [3, 2], [3, 7], [6, 5]]))

    def test_edges(self):
        self.assertEqual(struck(Book(3, []), 2), Book(3, []))
        self.assertEqual(struck(Book(2, [[1], [0]]), 1), Book(2, [[0]]))
        self.assertEqual(struck(Book(1, [[0]]), 0), Book(1, []))
        self.assertEqual(struck(OPEN, 1), Book(3, [[2, 0]]))

    def test_small_books(self):
        for book in small_books(3, 2):
            for gate in range(3):
                rows = [row for row in book.ways() if not set(row) & {gate}]
                self.assertEqual(struck(book, gate), Book(3, rows))


class Freed(unittest.TestCase):

    def test_k(self):
        self.assertEqual(freed(k_book(), 1),
                         Book(9, [[0, 2], [3, 4, 5], [6, 4, 7], [0, 5], [3, 2], [3, 7], [6, 5]]))
        self.assertEqual(freed(k_book(), 8), k_book())

    def test_of_alike_ones_the_first(self):
        book = Book(4, [[1], [0, 3, 1], [2], [0, 1], [0, 1, 3], [1, 0], [3, 0, 1]])
        self.assertEqual(freed(book, 3), Book(4, [[1], [0, 1], [2], [1, 0]]))

    def test_edges(self):
        self.assertEqual(freed(Book(3, []), 2), Book(3, []))
        self.assertEqual(freed(Book(2, [[1]]), 0), Book(2, [[1]]))
        self.assertEqual(freed(OPEN, 0), Book(3, [[1], [1, 2], [2]]))

    def assert_alone(self, way, book, gate):
        for call in (lambda: freed(book, gate), lambda: freed(gate=gate, book=book)):
            with self.assertRaises(Alone) as caught:
                call()
            self.assertEqual(caught.exception.way, way)
            self.assertIs(type(caught.exception.way), int)

    def test_alone(self):
        self.assert_alone(0, Book(1, [[0]]), 0)
        self.assert_alone(1, Book(2, [[0], [1]]), 1)
        self.assert_alone(2, Book(3, [[0, 1], [1, 2], [1], [2]]), 1)
        self.assert_alone(3, Book(3, [[0, 1], [0], [0, 2], [1]]), 1)

    def test_small_books(self):
        for book in small_books(3, 2):
            for gate in range(3):
                if [gate] in book.ways():
                    self.assert_alone(book.ways().index([gate]), book, gate)
                    continue
                rows = []
                for row in book.ways():
                    rest = [part for part in row if part != gate]
                    rows += [] if rest in rows else [rest]
                self.assertEqual(freed(book, gate), Book(3, rows))


class LeastWays(unittest.TestCase):

    def test_k_has_none_to_leave_out(self):
        self.assertEqual(least_ways(k_book()), k_book())

    def test_ways_with_more_gates_are_left_out(self):
        self.assertEqual(least_ways(Book(4, [[0, 1, 2], [1, 2], [3, 0, 1]])), Book(4, [[1, 2], [3, 0, 1]]))
        self.assertEqual(least_ways(Book(4, [[1, 2], [2, 3, 1], [3]])), Book(4, [[1, 2], [3]]))
        self.assertEqual(least_ways(Book(4, [[0, 1, 2], [2, 0], [0]])), Book(4, [[0]]))

    def test_of_ways_with_the_same_gates_the_first_stays(self):
        self.assertEqual(least_ways(Book(2, [[1, 0], [0, 1]])), Book(2, [[1, 0]]))
        self.assertEqual(least_ways(Book(3, [[0, 1, 2], [2, 1, 0], [1, 0, 2]])), Book(3, [[0, 1, 2]]))
        self.assertEqual(least_ways(Book(3, [[1, 0], [0, 1], [2]])), Book(3, [[1, 0], [2]]))
        self.assertEqual(least_ways(Book(3, [[0, 1], [1, 0], [1]])), Book(3, [[1]]))

    def test_edges(self):
        self.assertEqual(least_ways(Book(0, [])), Book(0, []))
        self.assertEqual(least_ways(Book(3, [])), Book(3, []))
        self.assertEqual(least_ways(Book(3, [[2], [0]])), Book(3, [[2], [0]]))
        self.assertEqual(least_ways(OPEN), OPEN)

    def test_small_books(self):
        for book in small_books(3, 3):
            lots = [set(row) for row in book.ways()]
            rows = [row for row, lot in zip(book.ways(), lots) if not any(other < lot for other in lots)]
            rows = [row for at, row in enumerate(rows) if set(row) not in [set(other) for other in rows[:at]]]
            self.assertEqual(least_ways(book), Book(3, rows))
            self.assertEqual(cuts(least_ways(book)), cuts(book))


class TwoBooks(unittest.TestCase):

    def test_behind(self):
        one, other = Book(3, [[0, 1], [2]]), Book(2, [[1], [0, 1], [0]])
        self.assertEqual(behind(one, other),
                         Book(5, [[0, 1, 4], [0, 1, 3, 4], [0, 1, 3], [2, 4], [2, 3, 4], [2, 3]]))
        self.assertEqual(behind(other, one),
                         Book(5, [[1, 2, 3], [1, 4], [0, 1, 2, 3], [0, 1, 4], [0, 2, 3], [0, 4]]))

    def test_behind_itself(self):
        self.assertEqual(behind(Book(2, [[1, 0]]), Book(2, [[1, 0]])), Book(4, [[1, 0, 3, 2]]))
        book = Book(2, [[1], [0]])
        self.assertEqual(behind(book, book), Book(4, [[1, 3], [1, 2], [0, 3], [0, 2]]))

    def test_beside(self):
        one, other = Book(3, [[0, 1], [2]]), Book(2, [[1], [0, 1], [0]])
        self.assertEqual(beside(one, other), Book(5, [[0, 1], [2], [4], [3, 4], [3]]))
        self.assertEqual(beside(other, one), Book(5, [[1], [0, 1], [0], [2, 3], [4]]))
        self.assertEqual(beside(one, one), Book(6, [[0, 1], [2], [3, 4], [5]]))

    def test_put_in(self):
        self.assertEqual(put_in(Book(2, [[0, 1]]), 1, Book(2, [[0], [1]])), Book(4, [[0, 2], [0, 3]]))
        book, other = Book(4, [[0, 1, 2], [3], [1], [2, 1]]), Book(3, [[2, 0], [1]])
        self.assertEqual(put_in(book, 1, other),
                         Book(7, [[0, 6, 4, 2], [0, 5, 2], [3], [6, 4], [5], [2, 6, 4], [2, 5]]))
        self.assertEqual(put_in(book, 0, other),
                         Book(7, [[6, 4, 1, 2], [5, 1, 2], [3], [1], [2, 1]]))

    def test_put_in_a_gate_of_no_way(self):
        self.assertEqual(put_in(Book(3, [[0], [1, 0]]), 2, Book(2, [[0], [1]])), Book(5, [[0], [1, 0]]))

    def test_put_in_itself(self):
        book = Book(2, [[1, 0], [0]])
        self.assertEqual(put_in(book, 0, book), Book(4, [[1, 3, 2], [1, 2], [3, 2], [2]]))

    def test_books_without_ways_and_without_gates(self):
        book, none, bare = Book(2, [[0, 1], [1]]), Book(3, []), Book(0, [])
        self.assertEqual(behind(book, none), Book(5, []))
        self.assertEqual(behind(none, book), Book(5, []))
        self.assertEqual(behind(bare, bare), Book(0, []))
        self.assertEqual(behind(bare, book), Book(2, []))
        self.assertEqual(beside(book, none), Book(5, [[0, 1], [1]]))
        self.assertEqual(beside(none, book), Book(5, [[3, 4], [4]]))
        self.assertEqual(beside(bare, book), book)
        self.assertEqual(beside(book, bare), book)
        self.assertEqual(beside(bare, bare), bare)
        self.assertEqual(put_in(book, 0, none), Book(5, [[1]]))
        self.assertEqual(put_in(book, 1, bare), Book(2, []))
        self.assertEqual(put_in(none, 0, book), Book(5, []))

    def test_books_that_are_not_closed(self):
        self.assertEqual(beside(OPEN, OPEN), Book(6, [[0, 1], [1, 2], [2, 0], [3, 4], [4, 5], [5, 3]]))
        self.assertEqual(behind(OPEN, Book(1, [[0]])), Book(4, [[0, 1, 3], [1, 2, 3], [2, 0, 3]]))
        self.assertEqual(put_in(OPEN, 1, Book(1, [[0]])), Book(4, [[0, 3], [3, 2], [2, 0]]))
        self.assertEqual(put_in(Book(1, [[0]]), 0, OPEN), Book(4, [[1, 2], [2, 3], [3, 1]]))

    def test_small_books(self):
        books = small_books(2, 2)
        for one in books:
            for other in books:
                ways, moved = one.ways(), [[gate + 2 for gate in row] for row in other.ways()]
                self.assertEqual(beside(one, other), Book(4, ways + moved))
                pairs = [(at, number) for at in range(len(ways)) for number in range(len(moved))]
                self.assertEqual(behind(one, other), Book(4, [ways[at] + moved[number] for at, number in pairs]))
                for gate in range(2):
                    rows = []
                    for row in ways:
                        rows += [[part for place in row for part in (inner if place == gate else [place])]
                                 for inner in (moved if gate in row else [[]])]
                    self.assertEqual(put_in(one, gate, other), Book(4, rows))


class WhatHolds(unittest.TestCase):

    def setUp(self):
        self.small = [book for book in small_books(2, 3) if is_closed(book)]
        self.closed = [k_book()] + self.small + [book for book in small_books(3, 2) if is_closed(book)]
        self.assertFalse(is_closed(OPEN))

    def test_one_closed_book_gives_closed_ones(self):
        for book in self.closed:
            self.assertTrue(is_closed(turned(book)))
            self.assertTrue(is_closed(least_ways(book)))
            self.assertEqual(cuts(least_ways(book)), cuts(book))
            for gate in range(book.gates()):
                self.assertTrue(is_closed(struck(book, gate)))
                if [gate] not in book.ways():
                    self.assertTrue(is_closed(freed(book, gate)))

    def test_two_closed_books_give_closed_ones(self):
        for one in self.small:
            for other in self.small:
                self.assertTrue(is_closed(behind(one, other)))
                self.assertTrue(is_closed(beside(one, other)))
                self.assertTrue(is_closed(put_in(one, 0, other)))
                self.assertTrue(is_closed(put_in(one, 1, other)))

    def test_the_most_of_two_closed_books(self):
        for one in self.small:
            for other in self.small:
                first, last = least_room(one, [2, 5]), least_room(other, [3, 1])
                rooms = [2, 5, 3, 1]
                self.assertEqual(least_room(behind(one, other), rooms), min(first, last))
                self.assertEqual(least_room(beside(one, other), rooms), first + last)
                self.assertEqual(least_room(put_in(one, 0, other), rooms), least_room(one, [last, 5]))
                self.assertEqual(least_room(put_in(one, 1, other), rooms), least_room(one, [2, last]))


class Errors(unittest.TestCase):

    def assert_raises(self, kind, name, thing, function, *told):
        named = dict(zip(PARAMETERS[function.__name__], told, strict=True))
        for call in (lambda: function(*told), lambda: function(**named)):
            with self.assertRaises(kind) as caught:
                call()
            self.assertIs(caught.exception.__class__, kind)
            self.assertIs(getattr(caught.exception, name), thing)

    def test_bad_book(self):
        book = k_book()
        for thing in NO_BOOKS:
            self.assert_raises(BadBook, "thing", thing, turned, thing)
            self.assert_raises(BadBook, "thing", thing, least_ways, thing)
            self.assert_raises(BadBook, "thing", thing, struck, thing, 0)
            self.assert_raises(BadBook, "thing", thing, freed, thing, 0)
            self.assert_raises(BadBook, "thing", thing, put_in, thing, 0, book)
            self.assert_raises(BadBook, "thing", thing, put_in, book, 0, thing)
            for function in (behind, beside):
                self.assert_raises(BadBook, "thing", thing, function, thing, book)
                self.assert_raises(BadBook, "thing", thing, function, book, thing)

    def test_bad_gate(self):
        for book in (k_book(), OPEN, Book(3, []), Book(0, []), Book(1, [[0]])):
            for thing in no_gates(book.gates()):
                self.assert_raises(BadGate, "gate", thing, struck, book, thing)
                self.assert_raises(BadGate, "gate", thing, freed, book, thing)
                self.assert_raises(BadGate, "gate", thing, put_in, book, thing, Book(20, []))

    def test_bad_book_ahead_of_bad_gate(self):
        for thing in NO_BOOKS:
            for gate in (-1, 9, True, None, "0", []):
                self.assert_raises(BadBook, "thing", thing, struck, thing, gate)
                self.assert_raises(BadBook, "thing", thing, freed, thing, gate)
                self.assert_raises(BadBook, "thing", thing, put_in, thing, gate, k_book())
                self.assert_raises(BadBook, "thing", thing, put_in, thing, gate, None)

    def test_the_first_book_ahead_of_the_second(self):
        for first in NO_BOOKS:
            for second in (["second"], None):
                self.assert_raises(BadBook, "thing", first, behind, first, second)
                self.assert_raises(BadBook, "thing", first, beside, first, second)
                self.assert_raises(BadBook, "thing", first, put_in, first, 0, second)

    def test_bad_gate_ahead_of_the_second_book(self):
        for gate in no_gates(9):
            for second in (["second"], None, 0):
                self.assert_raises(BadGate, "gate", gate, put_in, k_book(), gate, second)

    def test_bad_gate_ahead_of_alone(self):
        for gate in (1, -1, True, False, None, "0"):
            self.assert_raises(BadGate, "gate", gate, freed, Book(1, [[0]]), gate)

    def test_what_was_passed_stays_as_it_is(self):
        book, thing, gate = Book(2, [[0, 1], [1]]), [[0], [1]], [1]
        for call in (lambda: behind(book, thing), lambda: put_in(book, gate, thing), lambda: freed(book, 1)):
            with self.assertRaises(ValueError):
                call()
        self.assertEqual(book, Book(2, [[0, 1], [1]]))
        self.assertEqual(thing, [[0], [1]])
        self.assertEqual(gate, [1])

    def test_what_is_changed_later_is_so_in_the_error(self):
        thing = [0]
        with self.assertRaises(BadBook) as caught:
            turned(thing)
        thing.append(1)
        self.assertEqual(caught.exception.thing, [0, 1])


if __name__ == "__main__":
    unittest.main()

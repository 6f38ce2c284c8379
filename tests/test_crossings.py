"""[3.2], [3.3], [3.4], [3.5], and the interface's line of crossings.py."""

import random
import unittest
from itertools import permutations

from tests.drawn import books, closed_book, drawn_book
from tests.things import K_WAYS, as_tuples, crossing_lot, exactly, first_lack, k_book, lots, small_books
from waysthatcross.books import Book
from waysthatcross.crossings import along, crossing, lack, within
from waysthatcross.errors import BadGate, BadLot, BadWay

K_LESS = Book(9, K_WAYS[:-1])
# Ways that have all gates in common, in unlike orders.
SAME_GATES = Book(4, [[0, 1, 2, 3], [3, 2, 1, 0], [1, 3, 0, 2]])


def triples(book):
    """Return the triples of all crossings."""
    ways = book.ways()
    return [(one, gate, other) for one in range(len(ways)) for gate in range(book.gates())
            for other in range(len(ways)) if one != other and gate in ways[one] and gate in ways[other]]


def some_of(row):
    """Return the tuples of some gates of a row, perhaps none, in its order."""
    told = {()}
    for gate in row:
        told |= {part + (gate,) for part in told}
    return told


def plain_along(book, one, gate, other):
    """Return the ways that are among all rows that go along the crossing."""
    ways = book.ways()
    ahead = some_of(ways[one][:ways[one].index(gate) + 1])
    rest = some_of(ways[other][ways[other].index(gate):])
    rows = {first + last for first in ahead for last in rest}
    return [way for way, row in enumerate(ways) if tuple(row) in rows]


class Examples(unittest.TestCase):

    def test_k(self):
        book = k_book()
        self.assertIsNone(lack(book))
        self.assertEqual(crossing(book, 0, 1, 1), [0, 1, 4, 5])
        self.assertEqual(within(book, [0, 1, 4, 5]), [3])
        self.assertEqual(along(book, 0, 1, 1), [3])

    def test_k_without_its_last_way(self):
        self.assertEqual(exactly(lack(K_LESS)), exactly((2, 4, 1)))
        self.assertEqual(crossing(K_LESS, 2, 4, 1), [4, 5, 6])
        self.assertEqual(within(K_LESS, [4, 5, 6]), [])
        self.assertEqual(along(K_LESS, 2, 4, 1), [])

    def test_gate_8_is_in_no_way(self):
        for one, other in permutations(range(7), 2):
            for function in (crossing, along):
                with self.assertRaises(BadGate):
                    function(k_book(), one, 8, other)

    def test_books_that_are_not_closed(self):
        self.assertEqual(lack(Book(3, [[0, 1], [1, 2], [2, 0]])), (0, 0, 2))
        self.assertEqual(lack(Book(2, [[0, 1], [1, 0]])), (0, 0, 1))


class Crossing(unittest.TestCase):

    def test_up_to_the_gate_with_it_and_from_it_on(self):
        self.assertEqual(crossing(SAME_GATES, 0, 0, 1), [0])
        self.assertEqual(crossing(SAME_GATES, 1, 0, 0), [0, 1, 2, 3])
        self.assertEqual(crossing(SAME_GATES, 0, 2, 1), [0, 1, 2])
        self.assertEqual(crossing(SAME_GATES, 0, 3, 2), [0, 1, 2, 3])
        self.assertEqual(crossing(SAME_GATES, 2, 1, 0), [1, 2, 3])
        self.assertEqual(crossing(SAME_GATES, 2, 3, 1), [0, 1, 2, 3])
        self.assertEqual(crossing(SAME_GATES, 1, 3, 2), [0, 2, 3])

    def test_ways_of_one_gate(self):
        book = Book(3, [[1], [2, 1, 0]])
        self.assertEqual(crossing(book, 0, 1, 1), [0, 1])
        self.assertEqual(crossing(book, 1, 1, 0), [1, 2])

    def test_told_plainly(self):
        for book in books(drawn_book, 400, 1) + books(drawn_book, 300, 2, True) + [k_book(), SAME_GATES]:
            for one, gate, other in triples(book):
                lot = sorted(crossing_lot(book.ways(), one, gate, other))
                self.assertEqual(exactly(crossing(book, one, gate, other)), exactly(lot))

    def test_no_ways_number(self):
        for book in (k_book(), K_LESS):
            many = len(book.ways())
            for way in (many, many + 1, -1, -many, True, False, "0", None, [0], (0,), 10 ** 30, {}, book, len):
                self.assert_bad(BadWay, "way", way, book, way, 1, 1)
                self.assert_bad(BadWay, "way", way, book, 0, 1, way)
                self.assert_bad(BadWay, "way", way, book, way, 1, way)

    def test_of_one_ahead_of_that_of_other(self):
        for one in (7, -1, True, "0", None, [0]):
            for other in (8, -2, False, "1", [1]):
                self.assert_bad(BadWay, "way", one, k_book(), one, 1, other)
                self.assert_bad(BadWay, "way", one, k_book(), one, None, other)

    def test_one_and_other_the_same(self):
        for way in range(7):
            for gate in (0, 1, 5, 8, 9, None, True):
                self.assert_bad(BadWay, "way", way, k_book(), way, gate, way)
        # Two ways cannot be told apart where there is one alone, and none can where there is none.
        self.assert_bad(BadWay, "way", 0, Book(1, [[0]]), 0, 0, 0)
        self.assert_bad(BadWay, "way", 0, Book(1, []), 0, 0, 1)

    def test_the_very_one_if_both_are_alike_and_no_way(self):
        for one, other in ((int("1234567"), int("1234567")), ([0], [0]), ([], [])):
            self.assert_bad(BadWay, "way", one, k_book(), one, 1, other)

    def test_no_gate_of_both(self):
        # Way 0 is [0, 1, 2], way 1 [3, 1, 4, 5].
        for gate in (0, 2, 3, 4, 5, 6, 8, 9, -1, 10 ** 30, True, False, "1", None, [1], (1,), {1: 1}, len, k_book()):
            self.assert_bad(BadGate, "gate", gate, k_book(), 0, gate, 1)
            self.assert_bad(BadGate, "gate", gate, k_book(), 1, gate, 0)

    def test_gates_of_drawn_ways(self):
        for book in books(drawn_book, 150, 3):
            ways = book.ways()
            for one, other in permutations(range(len(ways)), 2):
                for gate in range(-1, book.gates() + 1):
                    if gate in ways[one] and gate in ways[other]:
                        self.assertIn(gate, crossing(book, one, gate, other))
                    else:
                        self.assert_bad(BadGate, "gate", gate, book, one, gate, other)

    def test_bad_way_ahead_of_bad_gate(self):
        for gate in (8, -1, None, True, [1]):
            self.assert_bad(BadWay, "way", 7, k_book(), 7, gate, 1)
            self.assert_bad(BadWay, "way", 7, k_book(), 0, gate, 7)
            self.assert_bad(BadWay, "way", 3, k_book(), 3, gate, 3)

    def assert_bad(self, kind, name, thing, book, one, gate, other):
        for function in (crossing, along):
            for call in (lambda: function(book, one, gate, other),
                         lambda: function(other=other, gate=gate, one=one, book=book)):
                with self.assertRaises(kind) as caught:
                    call()
                self.assertIs(caught.exception.__class__, kind)
                self.assertIs(getattr(caught.exception, name), thing)


class Within(unittest.TestCase):

    def test_all_lots_in_any_order(self):
        draw = random.Random(4)
        for book in books(drawn_book, 150, 4) + books(drawn_book, 100, 5, True) + [k_book(), SAME_GATES]:
            for lot in lots(book):
                ways = [way for way, row in enumerate(book.ways()) if set(row) <= set(lot)]
                self.assertEqual(exactly(within(book, lot)), exactly(ways))
                mixed = draw.sample(lot, len(lot))
                self.assertEqual(exactly(within(book, mixed)), exactly(ways))
                self.assertEqual(exactly(within(book, tuple(mixed))), exactly(ways))

    def test_edges(self):
        self.assertEqual(within(Book(0, []), []), [])
        self.assertEqual(within(Book(3, []), [2, 0, 1]), [])
        self.assertEqual(within(Book(2, [[1], [1, 0], [0]]), [1]), [0])
        self.assertEqual(within(Book(2, [[1], [1, 0], [0]]), (1, 0)), [0, 1, 2])
        self.assertEqual(within(Book(2, [[1], [1, 0], [0]]), ()), [])

    def test_what_is_no_lot(self):
        things = [[0, 0], [1, 2, 1], (3, 3), [9], [0, 9], [-1], [True], [0, True], [False], ["0"], "0", "", None, 0, 1,
                  True, {}, {0: 0}, [None], [[0]], [(0,)], [0, [1]], k_book(), [k_book()], len, [10 ** 30]]
        for lot in things:
            for call in (lambda: within(k_book(), lot), lambda: within(lot=lot, book=k_book())):
                with self.assertRaises(BadLot) as caught:
                    call()
                self.assertIs(caught.exception.lot, lot)
        with self.assertRaises(BadLot):
            within(Book(0, []), [0])


class Lack(unittest.TestCase):

    def assert_told_plainly(self, book):
        self.assertEqual(exactly(lack(book)), exactly(first_lack(book.ways())))

    def test_all_small_books(self):
        for book in small_books(2, 4) + small_books(3, 3):
            self.assert_told_plainly(book)

    def test_drawn_books(self):
        told = books(closed_book, 300, 6) + books(closed_book, 200, 7, True)
        for book in told:
            self.assert_told_plainly(book)
            self.assertIsNone(lack(book))
        for book in books(drawn_book, 1000, 8) + books(drawn_book, 500, 9, True):
            self.assert_told_plainly(book)

    def test_a_way_less_at_every_place(self):
        for book in [k_book()] + books(closed_book, 60, 10):
            ways = book.ways()
            for at in range(len(ways)):
                self.assert_told_plainly(Book(book.gates(), ways[:at] + ways[at + 1:]))

    def test_the_order_of_ways_does_not_close_nor_open(self):
        for ways in permutations(K_WAYS):
            self.assertIsNone(lack(Book(9, ways)))
        draw = random.Random(11)
        for book in books(drawn_book, 200, 11):
            other = Book(book.gates(), draw.sample(book.ways(), len(book.ways())))
            self.assertEqual(lack(other) is None, lack(book) is None)
            self.assert_told_plainly(other)

    def test_by_one_then_gate_then_other(self):
        # The gates of way 0 lie in another order on it: gate 0 comes first as a number, not on the way.
        self.assertEqual(lack(Book(4, [[1, 0, 2], [3, 1], [3, 0]])), (0, 0, 2))
        self.assertEqual(lack(Book(2, [[0], [0, 1], [1, 0]])), (2, 1, 1))
        self.assertEqual(lack(Book(3, [[0, 1], [2, 0, 1], [1, 0], [0, 2]])), (0, 0, 2))

    def test_edges(self):
        for book in (Book(0, []), Book(5, []), Book(1, [[0]]), Book(3, [[2, 0, 1]]), Book(4, [[0, 1], [3, 2]])):
            self.assertIsNone(lack(book))
        self.assertIsNone(lack(Book(2, [[0], [1], [0, 1], [1, 0]])))
        self.assertIsNone(lack(Book(3, [[0, 1], [0, 1, 2]])))

    def test_nine_gates_thirty_ways(self):
        singles = [[gate] for gate in range(9)]
        draw = random.Random(12)
        long_rows = [draw.sample(range(9), 9) for _ in range(21)]
        self.assertIsNone(lack(Book(9, singles + long_rows)))
        self.assert_told_plainly(Book(9, long_rows + singles[1:]))

    def test_a_way_within_need_not_go_along(self):
        book = Book(5, [[1, 0, 2], [3, 0, 4], [4, 1]])
        self.assertEqual(within(book, crossing(book, 0, 0, 1)), [2])
        self.assertEqual(along(book, 0, 0, 1), [])
        self.assertEqual(lack(book), (0, 1, 2))


class Along(unittest.TestCase):

    def test_told_plainly(self):
        for book in books(drawn_book, 250, 13) + books(drawn_book, 250, 14, True) + [k_book(), SAME_GATES]:
            for one, gate, other in triples(book):
                told = along(book, one, gate, other)
                self.assertEqual(exactly(told), exactly(plain_along(book, one, gate, other)))

    def test_all_rows_of_three_gates(self):
        for book in small_books(3, 3)[-400:]:
            for one, gate, other in triples(book):
                self.assertEqual(along(book, one, gate, other), plain_along(book, one, gate, other))

    def test_one_and_other_among_them_if_they_do(self):
        book = Book(4, [[0, 1, 2], [3, 1], [0, 1], [1, 0], [0], [1], [2, 1]])
        self.assertEqual(along(book, 0, 1, 1), [2, 4, 5])
        self.assertEqual(along(book, 1, 1, 0), [1, 5])
        self.assertEqual(along(book, 0, 2, 6), [0, 2, 4, 5, 6])
        self.assertEqual(along(book, 3, 1, 2), [5])
        self.assertEqual(along(book, 0, 0, 3), [4])

    def test_the_order_counts(self):
        book = Book(5, [[0, 1, 2], [2, 3, 4], [1, 0, 4], [0, 4, 3], [1, 3], [3, 1], [0, 1, 2, 3, 4]])
        self.assertEqual(within(book, crossing(book, 0, 2, 1)), [0, 1, 2, 3, 4, 5, 6])
        self.assertEqual(along(book, 0, 2, 1), [0, 1, 4, 6])

    def test_a_gate_of_both_parts_counts_on_either(self):
        # Gate 3 lies ahead on way 0 and behind on way 1.
        book = Book(5, [[0, 3, 1, 2], [4, 1, 3], [3, 1], [1, 3], [0, 3], [3, 0]])
        self.assertEqual(along(book, 0, 1, 1), [2, 3, 4])

    def test_in_a_closed_book_there_is_one_for_each_crossing(self):
        told = [book for book in small_books(3, 3) + books(drawn_book, 300, 15, True) if lack(book) is None]
        for book in told + books(closed_book, 200, 16) + [k_book()]:
            for one, gate, other in triples(book):
                self.assertNotEqual(along(book, one, gate, other), [])


class Lists(unittest.TestCase):

    def test_tuples_mean_the_same(self):
        for book in books(drawn_book, 60, 17):
            other = Book(book.gates(), as_tuples(book.ways()))
            self.assertEqual(exactly(lack(other)), exactly(lack(book)))
            for one, gate, number in triples(book):
                self.assertEqual(exactly(crossing(other, one, gate, number)),
                                 exactly(crossing(book, one, gate, number)))
                self.assertEqual(exactly(along(other, one, gate, number)), exactly(along(book, one, gate, number)))


if __name__ == "__main__":
    unittest.main()

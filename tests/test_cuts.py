"""[4.2], [4.3], [4.6] where they speak of cuts, and the interface's line of cuts.py."""

import random
import unittest
from itertools import combinations

from tests.drawn import books, closed_book, drawn_book, drawn_rooms
from tests.things import any_objects, cuts, exactly, is_closed, k_book, least_room, lots, small_books
from waysthatcross.books import Book
from waysthatcross.cuts import cut_below, is_cut, room_of, small_cuts, unmet
from waysthatcross.errors import BadLot, BadMany, BadRooms
from waysthatcross.plans import plan_of

OPEN = Book(3, [[0, 1], [1, 2], [2, 0]])
NO_LOTS_OF_K = [[0, 3, 6, 6], (0, 3, 6, 0), [0, 3, 6, 9], [0, 3, 6, -1], [0, 3, 6, True], [0, 3, 6, "1"], "036", "",
                [0, 3, 6, None], [0, 3, 6, [1]], {0: 0, 3: 3, 6: 6}, {}, None, 0, 3, True, False, -1, 10 ** 30,
                [[0, 3, 6]], ([0], [3], [6]), [0, 3, 6, 10 ** 30], [0, 3, 6, len], len, k_book(), [k_book()]]


def plain_small_cuts(book):
    """Return the cuts that have no other cut in them, by going through all lots."""
    told = cuts(book)
    return sorted(sorted(lot) for lot in told if not any(other < lot for other in told))


class Unmet(unittest.TestCase):

    def test_all_lots_in_any_order(self):
        draw = random.Random(1)
        for book in books(drawn_book, 150, 1) + books(drawn_book, 150, 2, True) + [k_book(), OPEN]:
            for lot in lots(book):
                ways = [way for way, row in enumerate(book.ways()) if not set(row) & set(lot)]
                first = ways[0] if ways else None
                mixed = draw.sample(lot, len(lot))
                for told in (lot, mixed, tuple(mixed)):
                    self.assertEqual(exactly(unmet(book, told)), exactly(first))
                    self.assertIs(is_cut(book, told), first is None)

    def test_k(self):
        self.assertIsNone(unmet(k_book(), [0, 3, 6]))
        self.assertEqual(unmet(k_book(), []), 0)
        self.assertEqual(unmet(k_book(), [0, 3]), 2)
        self.assertEqual(unmet(k_book(), (6, 0)), 1)
        self.assertEqual(unmet(k_book(), [1, 4, 5, 2]), 5)
        self.assertEqual(unmet(k_book(), [8]), 0)

    def test_without_ways_every_lot_is_a_cut(self):
        for gates in range(4):
            book = Book(gates, [])
            for lot in lots(book):
                self.assertIsNone(unmet(book, lot))
                self.assertIs(is_cut(book, lot), True)

    def test_what_is_no_lot(self):
        for lot in NO_LOTS_OF_K:
            for call in (lambda: unmet(k_book(), lot), lambda: unmet(lot=lot, book=k_book())):
                with self.assertRaises(BadLot) as caught:
                    call()
                self.assertIs(caught.exception.lot, lot)
        for lot in ([0], [3], [0, 0], None):
            with self.assertRaises(BadLot):
                unmet(Book(0, []), lot)


class IsCut(unittest.TestCase):

    def test_k(self):
        for lot in ([0, 3, 6], (6, 3, 0), [3, 8, 0, 6], list(range(9)), [0, 1, 2, 6, 7]):
            self.assertIs(is_cut(k_book(), lot), True)
        for lot in ([0, 3], [], (), [8], [0, 1, 2, 6], [1, 2, 4, 5, 8]):
            self.assertIs(is_cut(k_book(), lot), False)

    def test_any_object(self):
        for book in (k_book(), OPEN, Book(1, [[0]]), Book(3, []), Book(0, [])):
            told = [exactly(lot) for lot in lots(book)]
            told = told + [exactly(tuple(lot)) for lot in lots(book)]
            for thing in any_objects():
                lot = exactly(thing) in told
                self.assertIs(is_cut(book, thing), lot and all(set(thing) & set(row) for row in book.ways()))
                self.assertIs(is_cut(thing=thing, book=book), is_cut(book, thing))

    def test_what_is_no_lot_is_no_cut(self):
        for thing in NO_LOTS_OF_K:
            self.assertIs(is_cut(k_book(), thing), False)
            self.assertIs(is_cut(Book(9, []), thing), False)
        for thing in ([0], (0,), [False], None, "", {}, 0, len, [[]]):
            self.assertIs(is_cut(Book(0, []), thing), False)

    def test_a_book_that_is_not_closed(self):
        self.assertIs(is_cut(OPEN, [0, 1]), True)
        self.assertIs(is_cut(OPEN, [0]), False)


class SmallCuts(unittest.TestCase):

    def assert_told_plainly(self, book):
        self.assertEqual(exactly(small_cuts(book)), exactly(plain_small_cuts(book)))

    def test_k(self):
        told = small_cuts(k_book())
        self.assertEqual(len(told), 11)
        self.assertEqual(told[0], [0, 1, 2, 6, 7])
        self.assertIn([0, 3, 6], told)
        self.assert_told_plainly(k_book())

    def test_all_small_books(self):
        for book in small_books(2, 4) + small_books(3, 3):
            self.assert_told_plainly(book)

    def test_drawn_books(self):
        for book in books(drawn_book, 600, 3) + books(closed_book, 300, 4) + books(drawn_book, 300, 5, True):
            self.assert_told_plainly(book)

    def test_the_order_of_ways_does_not_matter(self):
        draw = random.Random(6)
        for book in books(drawn_book, 150, 6):
            other = Book(book.gates(), draw.sample(book.ways(), len(book.ways())))
            self.assertEqual(small_cuts(other), small_cuts(book))

    def test_without_ways_there_is_the_lot_without_gates(self):
        for gates in range(10):
            self.assertEqual(exactly(small_cuts(Book(gates, []))), exactly([[]]))

    def test_edges(self):
        self.assertEqual(small_cuts(Book(1, [[0]])), [[0]])
        self.assertEqual(small_cuts(Book(9, [[8], [7, 8]])), [[8]])
        self.assertEqual(small_cuts(Book(9, [[8, 0, 4]])), [[0], [4], [8]])
        self.assertEqual(small_cuts(Book(9, [[gate] for gate in range(9)])), [list(range(9))])
        self.assertEqual(small_cuts(OPEN), [[0, 1], [0, 2], [1, 2]])

    def test_as_many_as_nine_gates_let(self):
        draw = random.Random(7)
        rows = draw.sample([list(row) for row in combinations(range(9), 4)], 30)
        self.assert_told_plainly(Book(9, rows))
        self.assert_told_plainly(Book(9, [list(row) for row in combinations(range(9), 8)]))
        pairs = [[gate, (gate + step) % 9] for step in (1, 2, 3) for gate in range(9)]
        self.assert_told_plainly(Book(9, pairs))

    def test_gates_beyond_the_limit(self):
        self.assertEqual(small_cuts(Book(60, [[59, 3], [20]])), [[3, 20], [20, 59]])


class RoomOf(unittest.TestCase):

    def test_all_lots(self):
        draw = random.Random(8)
        for book in books(drawn_book, 60, 8) + [k_book(), OPEN]:
            for top in (1, 10 ** 13):
                rooms = drawn_rooms(draw, book, top)
                for lot in lots(book):
                    expected = 0
                    for gate in lot:
                        expected += rooms[gate]
                    mixed = draw.sample(lot, len(lot))
                    for told in (lot, mixed, tuple(mixed)):
                        self.assertEqual(exactly(room_of(book, rooms, told)), exactly(expected))
                        self.assertEqual(room_of(book, tuple(rooms), told), expected)

    def test_edges(self):
        self.assertEqual(room_of(Book(0, []), [], []), 0)
        self.assertEqual(room_of(Book(2, []), [3, 4], []), 0)
        self.assertEqual(room_of(Book(2, []), (3, 4), (1, 0)), 7)
        self.assertEqual(room_of(OPEN, [10 ** 13] * 3, [2, 0]), 2 * 10 ** 13)

    def test_bad_lot(self):
        for lot in NO_LOTS_OF_K:
            for call in (lambda: room_of(k_book(), [1] * 9, lot),
                         lambda: room_of(lot=lot, rooms=(1,) * 9, book=k_book())):
                with self.assertRaises(BadLot) as caught:
                    call()
                self.assertIs(caught.exception.lot, lot)

    def test_bad_rooms(self):
        for rooms in ([1] * 8, [1] * 10, [], [1] * 8 + [-1], [True] + [1] * 8, [1] * 8 + [None], ["1"] * 9, "1" * 9,
                      None, 1, {gate: 1 for gate in range(9)}, [[1]] * 9, [[1] * 9], k_book(), len):
            for lot in ([0], [9], None):
                with self.assertRaises(BadRooms) as caught:
                    room_of(k_book(), rooms, lot)
                self.assertIs(caught.exception.rooms, rooms)


class CutBelow(unittest.TestCase):

    def assert_below(self, book, rooms, many):
        """Assert that a cut is told that has less room, or none if there is none, by going through all lots."""
        told = cut_below(book, rooms, many)
        if many <= least_room(book, rooms):
            self.assertIsNone(told)
        else:
            self.assertIs(type(told), list)
            self.assertEqual(exactly(told), exactly(sorted(told)))
            self.assertIn(set(told), cuts(book))
            self.assertEqual(len(set(told)), len(told))
            self.assertLess(sum(rooms[gate] for gate in told), many)

    def test_small_rooms(self):
        draw = random.Random(9)
        told = [book for book in small_books(2, 3) + small_books(3, 2) if is_closed(book)]
        for book in told + books(closed_book, 100, 9, True) + books(closed_book, 60, 10):
            rooms = drawn_rooms(draw, book, 3)
            for many in range(least_room(book, rooms) + 3):
                self.assert_below(book, rooms, many)
                self.assert_below(book, tuple(rooms), many)

    def test_great_rooms(self):
        draw = random.Random(11)
        for book in books(closed_book, 150, 11) + [k_book()]:
            for rooms in (drawn_rooms(draw, book, 10 ** 13), [10 ** 13] * book.gates()):
                least = least_room(book, rooms)
                for many in {0, 1, max(0, least - 1), least, least + 1, 2 * least, 10 ** 14}:
                    self.assert_below(book, rooms, many)
                    self.assertNotEqual(cut_below(book, rooms, many) is None, plan_of(book, rooms, many) is None)

    def test_k(self):
        self.assertIsNone(cut_below(k_book(), [1] * 9, 3))
        self.assertIsNone(cut_below(k_book(), [1] * 9, 0))
        self.assertEqual(len(cut_below(k_book(), [1] * 9, 4)), 3)

    def test_the_first_small_cut_each_time(self):
        draw = random.Random(12)
        for book in books(closed_book, 100, 12) + [k_book()]:
            rooms = drawn_rooms(draw, book, 5)
            for many in range(1, least_room(book, rooms) + 4):
                told = [lot for lot in plain_small_cuts(book) if sum(rooms[gate] for gate in lot) < many]
                for _ in range(2):
                    self.assertEqual(cut_below(book, rooms, many), told[0] if told else None)

    def test_a_told_cut_may_be_told_again(self):
        told = cut_below(k_book(), [1] * 9, 4)
        self.assertIs(is_cut(k_book(), told), True)
        self.assertEqual(room_of(k_book(), [1] * 9, told), 3)

    def test_edges(self):
        for gates in range(3):
            self.assertIsNone(cut_below(Book(gates, []), [5] * gates, 0))
            self.assertEqual(cut_below(Book(gates, []), [5] * gates, 1), [])
        self.assertIsNone(cut_below(Book(1, [[0]]), [0], 0))
        self.assertEqual(cut_below(Book(1, [[0]]), [0], 1), [0])
        self.assertIsNone(cut_below(Book(1, [[0]]), [10 ** 13], 10 ** 13))
        self.assertEqual(cut_below(Book(1, [[0]]), [10 ** 13], 10 ** 13 + 1), [0])

    def test_bad_many(self):
        for many in [thing for thing in any_objects() if type(thing) is not int or thing < 0] + [-5, -10 ** 14]:
            for call in (lambda: cut_below(k_book(), [1] * 9, many),
                         lambda: cut_below(many=many, rooms=[1] * 9, book=k_book())):
                with self.assertRaises(BadMany) as caught:
                    call()
                self.assertIs(caught.exception.many, many)


if __name__ == "__main__":
    unittest.main()

"""[10.1], [10.2], and the interface's line of gaps.py."""

import random
import unittest
from itertools import product

from tests.drawn import books, closed_book, drawn_book, drawn_rooms
from tests.things import any_objects, deep, exactly, greatest_sum, is_closed, k_book, small_books
from tests.things import least_room as plain_least_room
from waysthatcross.books import Book
from waysthatcross.errors import BadBook, BadRooms, BadTop
from waysthatcross.gaps import gap, gap_rooms, greatest, least_room
from waysthatcross.plans import most

RING = Book(3, [[0, 1], [1, 2], [2, 0]])
FOUR = Book(4, [[1, 0, 2], [0, 1, 3], [2, 3, 1]])


def any_book(draw, gates, ways):
    """Return a drawn book of no more gates and ways, most often not closed."""
    gates = draw.randint(1, gates)
    rows = []
    for _ in range(draw.randint(0, ways)):
        row = draw.sample(range(gates), draw.randint(1, min(gates, draw.choice([2, 3, gates]))))
        rows += [] if row in rows else [row]
    return Book(gates, rows)


def ring_book(draw):
    """Return a drawn book with three ways two by two through a gate, and ways besides: often with a gap."""
    names = draw.sample(range(5), 5)
    rows = [[0, 1], [1, 2], [2, 0]]
    rows += [draw.sample(range(5), draw.randint(1, 4)) for _ in range(draw.randint(0, 3))]
    rows = [draw.sample(row, len(row)) + ([4] if draw.random() < 0.3 and 4 not in row else []) for row in rows]
    rows = [row for at, row in enumerate(rows) if row not in rows[:at]]
    return Book(5, [[names[gate] for gate in row] for row in rows])


def plain_gap_rooms(book, top):
    """Return the first list of rooms with a gap, going through all lists."""
    for rooms in product(range(top + 1), repeat=book.gates()):
        if plain_least_room(book, rooms) > greatest_sum(book.ways(), list(rooms)):
            return list(rooms)
    return None


class Examples(unittest.TestCase):

    def test_a_ring(self):
        self.assertEqual(exactly(greatest(RING, [1, 1, 1])), exactly(1))
        self.assertEqual(exactly(least_room(RING, [1, 1, 1])), exactly(2))
        self.assertEqual(exactly(gap(RING, [1, 1, 1])), exactly(1))
        self.assertEqual(exactly(gap_rooms(RING, 1)), exactly([1, 1, 1]))

    def test_no_gap_though_not_closed(self):
        book = Book(2, [[0, 1], [1, 0]])
        self.assertFalse(is_closed(book))
        for top in range(4):
            self.assertIsNone(gap_rooms(book, top))

    def test_a_gap_only_where_a_room_is_two(self):
        self.assertIsNone(gap_rooms(FOUR, 1))
        self.assertEqual(exactly(gap_rooms(FOUR, 2)), exactly([1, 2, 1, 1]))
        self.assertEqual(gap(FOUR, [1, 2, 1, 1]), 1)

    def test_without_ways(self):
        for gates in range(4):
            for top in range(4):
                book, rooms = Book(gates, []), [top] * gates
                for function in (greatest, least_room, gap):
                    self.assertEqual(exactly(function(book, rooms)), exactly(0))
                self.assertIsNone(gap_rooms(book, top))


class GreatestAndLeast(unittest.TestCase):

    def assert_told(self, book, rooms):
        most_in_a_plan, least = greatest_sum(book.ways(), list(rooms)), plain_least_room(book, rooms)
        self.assertEqual(exactly(greatest(book, rooms)), exactly(most_in_a_plan))
        self.assertEqual(exactly(least_room(book, rooms)), exactly(least))
        self.assertEqual(exactly(gap(book, rooms)), exactly(least - most_in_a_plan))
        self.assertEqual(gap(rooms=tuple(rooms), book=book), least - most_in_a_plan)
        self.assertEqual(greatest(rooms=tuple(rooms), book=book), most_in_a_plan)
        self.assertEqual(least_room(rooms=tuple(rooms), book=book), least)
        return least - most_in_a_plan

    def test_all_plans_and_lots_of_small_books(self):
        draw = random.Random(1)
        for book in small_books(2, 3) + small_books(3, 3)[::7]:
            self.assert_told(book, [draw.randint(0, 3) for _ in range(book.gates())])

    def test_all_plans_and_lots_of_drawn_books(self):
        draw = random.Random(2)
        seen = 0
        for book in [any_book(draw, 6, 6) for _ in range(300)] + [ring_book(draw) for _ in range(150)]:
            for top in (1, 3):
                seen += self.assert_told(book, [draw.randint(0, top) for _ in range(book.gates())]) > 0
        self.assertGreater(seen, 20)

    def test_rings_of_three_and_five(self):
        five = Book(5, [[gate, (gate + 1) % 5] for gate in range(5)])
        for room in range(4):
            self.assertEqual(self.assert_told(RING, [room] * 3), 2 * room - 3 * room // 2)
            self.assertEqual(self.assert_told(five, [room] * 5), 3 * room - 5 * room // 2)

    def test_six_gates_eight_ways(self):
        draw = random.Random(3)
        rows = [list(pair) for pair in [(0, 1), (1, 2), (2, 0), (3, 4), (4, 5), (5, 3), (0, 3), (1, 4)]]
        for _ in range(6):
            rooms = [draw.randint(0, 2) for _ in range(6)]
            self.assert_told(Book(6, rows), rooms)
        self.assertEqual(greatest(Book(6, rows), [3] * 6), 9)
        self.assertEqual(least_room(Book(6, rows), [3] * 6), 12)

    def test_a_closed_book_has_none(self):
        draw = random.Random(4)
        for book in books(closed_book, 150, 4) + books(closed_book, 100, 5, True) + [k_book()]:
            rooms = drawn_rooms(draw, book, 3)
            self.assertEqual(greatest(book, rooms), most(book, rooms))
            self.assertEqual(least_room(book, rooms), most(book, rooms))
            self.assertEqual(exactly(gap(book, rooms)), exactly(0))

    def test_a_way_more_that_is_needless_changes_nothing(self):
        for rooms in product(range(3), repeat=3):
            told = Book(3, [[2, 1, 0], *RING.ways(), [0, 1, 2], [1, 0]])
            self.assertEqual(greatest(told, rooms), greatest(RING, rooms))
            self.assertEqual(gap(told, rooms), gap(RING, rooms))

    def test_errors(self):
        wrong = [[1, 1], [1] * 4, [], [1, 1, -1], [True, 1, 1], "111", None, 1, {}, [[1]] * 3, RING, len, deep(list)]
        for function in (greatest, least_room, gap):
            for rooms in wrong:
                with self.assertRaises(BadRooms) as caught:
                    function(RING, rooms)
                self.assertIs(caught.exception.rooms, rooms)
            for thing in [thing for thing in any_objects() if not isinstance(thing, Book)]:
                with self.assertRaises(BadBook) as caught:
                    function(thing, None)
                self.assertIs(caught.exception.thing, thing)


class GapRooms(unittest.TestCase):

    def test_all_lists_of_rooms(self):
        draw = random.Random(5)
        told = [any_book(draw, 4, 6) for _ in range(150)] + [RING, FOUR]
        told += books(drawn_book, 150, 6, True)
        seen = 0
        for book in told:
            for top in (0, 1, 2, 3):
                if (top + 1) ** book.gates() <= 81 and len(book.ways()) < 8:
                    expected = plain_gap_rooms(book, top)
                    seen += expected is not None
                    self.assertEqual(exactly(gap_rooms(book, top)), exactly(expected))
                    self.assertEqual(gap_rooms(top=top, book=book), expected)
        self.assertGreater(seen, 10)

    def test_all_lists_of_rooms_of_books_with_gaps(self):
        draw = random.Random(6)
        for _ in range(60):
            book = ring_book(draw)
            self.assertEqual(exactly(gap_rooms(book, 1)), exactly(plain_gap_rooms(book, 1)))

    def test_the_first_as_lists_compare(self):
        # Two rings, of the gates 0 to 2 and 3 to 5: the one of the last gates comes first.
        rows = [[0, 1], [1, 2], [2, 0], [3, 4], [4, 5], [5, 3]]
        for top in (1, 2, 3):
            self.assertEqual(gap_rooms(Book(6, rows), top), [0, 0, 0, 1, 1, 1])
            self.assertEqual(gap_rooms(Book(6, rows[:3]), top), [1, 1, 1, 0, 0, 0])
            self.assertEqual(gap_rooms(Book(5, [[0, 2], [2, 4], [4, 0], [1]]), top), [1, 0, 1, 0, 1])

    def test_six_gates_eight_ways_without_a_gap(self):
        # Pairs of one of the gates 0, 3, 4 and one of the others: there is never a gap, though it is not closed.
        book = Book(6, [[0, 2], [2, 4], [4, 5], [5, 0], [1, 3], [3, 5], [2, 3], [0, 1]])
        self.assertFalse(is_closed(book))
        for top in (1, 2, 3):
            self.assertIsNone(gap_rooms(book, top))
        for rooms in product(range(2), repeat=6):
            self.assertEqual(plain_least_room(book, rooms), greatest_sum(book.ways(), list(rooms)))
        # With one pair more there are rings of three.
        self.assertEqual(gap_rooms(Book(6, book.ways()[1:] + [[0, 4]]), 3), [1, 0, 0, 0, 1, 1])

    def test_none_for_closed_books(self):
        for book in books(closed_book, 100, 7) + books(closed_book, 100, 8, True) + [k_book()]:
            for top in (0, 1, 3):
                self.assertIsNone(gap_rooms(book, top))

    def test_no_room_at_all_leaves_no_gap(self):
        for book in (RING, FOUR):
            self.assertIsNone(gap_rooms(book, 0))

    def test_bad_top(self):
        objects = [thing for thing in any_objects() if type(thing) is not int or thing < 0]
        for top in objects + [-1, True, False, "1", [1], (1,), None, RING, len]:
            for book in (RING, k_book()):
                for call in (lambda: gap_rooms(book, top), lambda: gap_rooms(top=top, book=book)):
                    with self.assertRaises(BadTop) as caught:
                        call()
                    self.assertIs(caught.exception.top, top)
            with self.assertRaises(BadBook):
                gap_rooms(None, top)


if __name__ == "__main__":
    unittest.main()

"""[9.4], [9.5] where it speaks of neighbours and trails, and the interface's line of webs.py."""

import random
import unittest
from itertools import permutations

from tests.drawn import books, closed_book, drawn_book
from tests.test_made import drawn_leaps, drawn_order, drawn_web
from tests.things import K_WAYS, any_objects, as_tuples, exactly, k_book, small_books
from waysthatcross.books import Book
from waysthatcross.changed import behind, beside
from waysthatcross.errors import BadBook
from waysthatcross.made import of_leaps, of_order, of_places, of_roads
from waysthatcross.webs import neighbours, stray


def plain_neighbours(book):
    """Return the ascending list of the pairs of gates, the latter right behind the former."""
    gates = range(book.gates())
    return [(one, other) for one in gates for other in gates if any(
        row[at:at + 2] == [one, other] for row in book.ways() for at in range(len(row)))]


def all_trails(book):
    """Return all trails, ascending."""
    ways, pairs = book.ways(), plain_neighbours(book)
    rows = [[gate] for gate in sorted({row[0] for row in ways})]
    for row in rows:
        rows.extend([row + [other] for one, other in pairs if one == row[-1] and other not in row])
    return sorted(row for row in rows if row[-1] in {way[-1] for way in ways})


def plain_stray(book):
    """Return the first trail without all gates of some way, going through all trails."""
    for trail in all_trails(book):
        if not any(set(row) <= set(trail) for row in book.ways()):
            return trail
    return None


class Examples(unittest.TestCase):

    def test_k(self):
        told = neighbours(k_book())
        self.assertEqual(len(told), 11)
        self.assertEqual(exactly(told), exactly([(0, 1), (0, 5), (1, 2), (1, 4), (3, 1), (3, 2), (3, 7), (4, 5), (4, 7),
                                                 (6, 4), (6, 5)]))
        self.assertEqual(exactly(stray(k_book())), exactly([0, 1, 4, 7]))

    def test_k_with_the_way_that_it_lacks(self):
        # Then the next trail, and then one more; at last there is a web behind it.
        book, strays = k_book(), []
        while stray(book) is not None:
            strays.append(stray(book))
            self.assertEqual(plain_stray(book), strays[-1])
            book = Book(9, book.ways() + [strays[-1]])
        self.assertEqual(strays[0], [0, 1, 4, 7])
        self.assertIsNone(plain_stray(book))


class NeighboursAndStray(unittest.TestCase):

    def assert_told(self, book):
        expected = plain_stray(book)
        self.assertEqual(exactly(neighbours(book)), exactly(plain_neighbours(book)))
        self.assertEqual(exactly(stray(book)), exactly(expected))
        self.assertEqual(exactly(stray(book)), exactly(expected))
        other = Book(book.gates(), as_tuples(book.ways()))
        self.assertEqual(exactly(neighbours(book=other)), exactly(plain_neighbours(book)))
        self.assertEqual(exactly(stray(book=other)), exactly(expected))
        return expected

    def test_all_small_books(self):
        for book in small_books(2, 4) + small_books(3, 3)[::3]:
            self.assert_told(book)

    def test_drawn_books(self):
        seen = {True: 0, False: 0}
        for book in books(drawn_book, 300, 1, True) + books(closed_book, 300, 2, True) + books(drawn_book, 250, 3):
            if len(plain_neighbours(book)) < 20:
                seen[self.assert_told(book) is None] += 1
        self.assertGreater(min(seen.values()), 100)

    def test_books_of_few_long_ways(self):
        draw = random.Random(4)
        for _ in range(300):
            gates = draw.randint(3, 7)
            rows = [draw.sample(range(gates), draw.randint(2, gates)) for _ in range(draw.randint(1, 4))]
            self.assert_told(Book(gates, [row for at, row in enumerate(rows) if row not in rows[:at]]))

    def test_none_for_webs_by_places(self):
        # Roads by which no way goes, and what no way leads by, are in no trail.
        draw = random.Random(5)
        for _ in range(400):
            self.assertIsNone(stray(of_places(*drawn_web(draw))))

    def test_a_web_by_roads_has_trails_with_a_place_twice(self):
        draw = random.Random(6)
        for _ in range(300):
            self.assert_told(of_roads(*drawn_web(draw, 5, 7)))

    def test_orders_and_leaps(self):
        draw = random.Random(7)
        for _ in range(200):
            self.assertIsNone(self.assert_told(of_order(*drawn_order(draw))))
            self.assert_told(of_leaps(*drawn_leaps(draw)))

    def test_edges(self):
        for gates in range(3):
            self.assertEqual(exactly(neighbours(Book(gates, []))), exactly([]))
            self.assertIsNone(stray(Book(gates, [])))
        self.assertEqual(neighbours(Book(3, [[2], [0]])), [])
        self.assertIsNone(stray(Book(3, [[2], [0]])))
        self.assertEqual(neighbours(Book(3, [[2, 0], [1, 2, 0], [0, 1]])), [(0, 1), (1, 2), (2, 0)])

    def test_a_trail_of_one_gate(self):
        # Gate 1 is the first of one way and the last of another one.
        self.assertEqual(stray(Book(3, [[0, 1], [1, 2]])), [1])
        self.assertIsNone(stray(Book(3, [[0, 1], [1, 2], [1]])))

    def test_as_lists_compare(self):
        # [0, 1, 2] stands ahead of [0, 3], and what goes on from [0, 3] behind it.
        book = Book(5, [[0, 3, 4], [3, 1], [0, 1, 3], [1, 2], [0, 2]])
        self.assertEqual(stray(book), plain_stray(book))
        self.assertEqual(stray(Book(4, [[0, 3, 2], [1, 3]])), [0, 3])
        self.assertEqual(stray(Book(4, [[0, 1, 3], [3, 1, 2], [0, 3, 2]])), [0, 1, 2])

    def test_all_pairs_are_neighbours(self):
        # Very many trails, all of which end at the one gate that is a way by itself.
        rows = [[8]]
        for first in range(8):
            for step in (1, 3, 5, 7):
                row = [(first + step * at) % 8 for at in range(8)] + [8]
                if len(rows) < 30 and row not in rows:
                    rows.append(row)
        self.assertIsNone(stray(Book(9, rows)))
        self.assertIsNone(stray(Book(9, [row for row in rows if len(row) > 1] + [[8]])))
        trails = [list(row) for row in list(permutations(range(9)))[::15000]]
        self.assertEqual(stray(Book(9, trails)), self.first_stray_of(trails))

    def first_stray_of(self, rows):
        """Return the first trail of a book of rows of all gates, ascending, by trying the shortest ones only."""
        firsts, lasts = {row[0] for row in rows}, {row[-1] for row in rows}
        pairs = {pair for row in rows for pair in zip(row, row[1:])}
        trail = [min(firsts)]
        while trail[-1] not in lasts:
            trail.append(min(other for one, other in pairs if one == trail[-1] and other not in trail))
        return trail

    def test_more_gates_than_the_limit(self):
        book = behind(k_book(), k_book())
        self.assertEqual(len(neighbours(book)), 11 + 11 + 9)
        self.assertEqual(stray(book), [0, 1, 2, 9, 10, 13, 16])
        self.assertEqual(stray(beside(k_book(), Book(1, [[0]]))), [0, 1, 4, 7])
        self.assertEqual(neighbours(Book(10 ** 3, [list(range(10 ** 3))]))[-1], (998, 999))

    def test_told_lists_belong_to_the_caller(self):
        book = k_book()
        for function in (neighbours, stray):
            told = function(book)
            expected = list(told)
            told.clear()
            self.assertEqual(function(book), expected)
            self.assertIsNot(function(book), function(book))
        self.assertEqual(book.ways(), K_WAYS)

    def test_bad_book(self):
        for thing in [thing for thing in any_objects() if not isinstance(thing, Book)]:
            for function in (neighbours, stray):
                for call in (lambda: function(thing), lambda: function(book=thing)):
                    with self.assertRaises(BadBook) as caught:
                        call()
                    self.assertIs(caught.exception.thing, thing)


if __name__ == "__main__":
    unittest.main()

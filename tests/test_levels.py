"""[7.6], [7.7] where it speaks of levels, and the interface's line of levels.py."""

import random
import unittest

from tests.drawn import books, closed_book, drawn_rooms, leap_rows, shuffled
from tests.test_through import greatest_of, laid_out
from tests.test_timed import K_LENGTHS, OPEN, drawn_lengths
from tests.things import any_objects, as_tuples, deep, exactly, is_closed, k_book, least_room, small_books
from waysthatcross.books import Book
from waysthatcross.errors import BadLengths, BadMany, BadRooms, NotClosed
from waysthatcross.levels import least_bell, levels
from waysthatcross.through import through


def by(pairs, bell):
    """Return how many get through by the bell, as the levels tell it."""
    return sum(amount * (bell + 1 - length) for length, amount in pairs if length <= bell)


def bells_of(draw, pairs, lengths):
    """Return bells around the lengths of levels, near ones and far ones."""
    told = {length + more for length, _ in pairs for more in (-1, 0, 1)}
    told |= {0, 1, draw.randint(0, 9), sum(lengths), sum(lengths) + 1, draw.randint(0, 2 * sum(lengths) + 1), 10 ** 12}
    return sorted(bell for bell in told if bell >= 0)


def drawn_cases(many, start, top=4):
    """Return triples of a closed book, rooms and lengths."""
    draw = random.Random(start)
    told = books(closed_book, many, start) + books(closed_book, many, start + 1, True)
    for _ in range(many // 2):
        rows = draw.randint(2, 3)
        things = draw.randint(1, 9 - 2 * rows)
        told.append(shuffled(draw, leap_rows(draw, things, rows), things + 2 * rows))
    cases = [(k_book(), [1] * 9, K_LENGTHS)]
    for book in told:
        rooms = draw.choice([[1] * book.gates(), drawn_rooms(draw, book, top)])
        cases.append((book, rooms, drawn_lengths(draw, book, draw.choice([3, 9, 10 ** 9]))))
    return cases


class Levels(unittest.TestCase):

    def assert_levels(self, book, rooms, lengths):
        """Assert that the pairs are such as levels are, and return them."""
        told = levels(book, rooms, lengths)
        self.assertEqual(exactly(told), exactly([(length, amount) for length, amount in told]))
        self.assertEqual([pair for pair in told if type(pair[0]) is not int or type(pair[1]) is not int], [])
        self.assertEqual([length for length, _ in told], sorted({length for length, _ in told}))
        self.assertEqual([amount for _, amount in told if amount < 1], [])
        if told:
            self.assertGreaterEqual(told[0][0], 0)
            self.assertLessEqual(told[-1][0], sum(lengths))
        self.assertEqual(sum(amount for _, amount in told), least_room(book, rooms))
        return told

    def test_k(self):
        told = self.assert_levels(k_book(), [1] * 9, K_LENGTHS)
        self.assertEqual(exactly(told), exactly([(2, 2), (4, 1)]))
        self.assertEqual(by(told, 5), 10)
        self.assertEqual(exactly(least_bell(k_book(), [1] * 9, K_LENGTHS, 10)), exactly(5))

    def test_through_by_many_bells(self):
        draw = random.Random(1)
        several = 0
        for book, rooms, lengths in drawn_cases(200, 1):
            told = self.assert_levels(book, rooms, lengths)
            several += len(told) > 1
            for bell in bells_of(draw, told, lengths):
                self.assertEqual(through(book, rooms, lengths, bell), by(told, bell))
        self.assertGreater(several, 100)

    def test_all_near_bells(self):
        for book, rooms, lengths in drawn_cases(60, 2):
            if sum(lengths) < 40:
                told = self.assert_levels(book, rooms, lengths)
                for bell in range(sum(lengths) + 3):
                    self.assertEqual(through(book, rooms, lengths, bell), by(told, bell))

    def test_ways_laid_out_turn_by_turn(self):
        draw = random.Random(3)
        told = [book for book in small_books(2, 3) if is_closed(book)][::2] + books(closed_book, 150, 4, True)
        for book in told:
            lengths = [draw.choice([0, 1, 1, 2]) for _ in range(book.gates())]
            rooms = [draw.choice([0, 1, 1, 2]) for _ in range(book.gates())]
            pairs = self.assert_levels(book, rooms, lengths)
            for bell in range(4):
                journeys = laid_out(book, lengths, bell)
                if len(journeys) < 9:
                    self.assertEqual(greatest_of(journeys, rooms), by(pairs, bell))

    def test_great_rooms_and_lengths(self):
        draw = random.Random(5)
        for book in books(closed_book, 150, 5):
            lengths = [10 ** 9 - draw.randint(0, 3) for _ in range(book.gates())]
            rooms = drawn_rooms(draw, book, 10 ** 13)
            told = self.assert_levels(book, rooms, lengths)
            for bell in bells_of(draw, told, lengths):
                self.assertEqual(through(book, rooms, lengths, bell), by(told, bell))

    def test_edges(self):
        for gates in range(3):
            self.assertEqual(exactly(levels(Book(gates, []), [5] * gates, [1] * gates)), exactly([]))
        self.assertEqual(levels(k_book(), [0] * 9, K_LENGTHS), [])
        self.assertEqual(exactly(levels(k_book(), [1] * 9, [0] * 9)), exactly([(0, 3)]))
        self.assertEqual(levels(Book(1, [[0]]), [10 ** 13], [10 ** 9]), [(10 ** 9, 10 ** 13)])
        self.assertEqual(levels(Book(2, [[0], [1]]), [3, 4], [7, 7]), [(7, 7)])
        self.assertEqual(levels(Book(2, [[0], [1]]), [3, 4], [7, 5]), [(5, 4), (7, 3)])
        # A way that has all gates of another one is never needed.
        self.assertEqual(levels(Book(2, [[0, 1], [0]]), [3, 4], [7, 5]), [(7, 3)])

    def test_a_level_may_be_no_ways_length(self):
        # The way of length 2 shuts both others out, which are 6 each: later both go for it.
        book = Book(4, [[0, 1], [0, 2], [3, 1]])
        self.assertEqual(self.assert_levels(book, [1, 1, 1, 1], [1, 1, 5, 5]), [(2, 1), (10, 1)])
        self.assertEqual([through(book, [1] * 4, [1, 1, 5, 5], bell) for bell in (1, 2, 9, 10, 11)], [0, 1, 8, 10, 12])
        self.assertEqual(self.assert_levels(book, [3, 3, 1, 2], [1, 1, 5, 5]), [(2, 3), (10, 1)])


class LeastBell(unittest.TestCase):

    def assert_least(self, book, rooms, lengths, many):
        """Assert that by the bell told so many get through, and by the one ahead fewer."""
        told = least_bell(book, rooms, lengths, many)
        if told is None:
            self.assertGreater(many, 0)
            self.assertEqual(through(book, rooms, lengths, 10 ** 13), 0)
        else:
            self.assertIs(type(told), int)
            self.assertGreaterEqual(through(book, rooms, lengths, told), many)
            if told > 0:
                self.assertLess(through(book, rooms, lengths, told - 1), many)
        return told

    def test_by_it_so_many_and_by_the_one_ahead_fewer(self):
        draw = random.Random(6)
        for book, rooms, lengths in drawn_cases(80, 6):
            pairs = levels(book, rooms, lengths)
            bell = draw.choice(bells_of(draw, pairs, lengths))
            just = through(book, rooms, lengths, bell)
            for many in {0, 1, 2, just, just + 1, max(0, just - 1), draw.randint(0, 10 ** 14), 10 ** 23}:
                self.assert_least(book, rooms, lengths, many)
            if just > 0:
                self.assertEqual(least_bell(book, rooms, lengths, just) <= bell, True)

    def test_each_of_k(self):
        expected = [0, 2, 2, 3, 3, 4, 4, 4, 5, 5, 5, 6]
        self.assertEqual([least_bell(k_book(), [1] * 9, K_LENGTHS, many) for many in range(12)], expected)

    def test_0_and_never(self):
        for gates in range(3):
            book = Book(gates, [])
            self.assertEqual(exactly(least_bell(book, [5] * gates, [1] * gates, 0)), exactly(0))
            for many in (1, 10 ** 23):
                self.assertIsNone(least_bell(book, [5] * gates, [1] * gates, many))
        self.assertEqual(least_bell(k_book(), [0] * 9, K_LENGTHS, 0), 0)
        self.assertIsNone(least_bell(k_book(), [0] * 9, K_LENGTHS, 1))
        self.assertEqual(exactly(least_bell(k_book(), [1] * 9, [10 ** 9] * 9, 0)), exactly(0))

    def test_far_more_than_ever(self):
        self.assertEqual(least_bell(Book(1, [[0]]), [1], [10 ** 9], 10 ** 23), 10 ** 23 + 10 ** 9 - 1)
        self.assertEqual(least_bell(Book(1, [[0]]), [10 ** 13], [0], 10 ** 23), 10 ** 10 - 1)
        self.assertEqual(least_bell(Book(1, [[0]]), [10 ** 13], [0], 10 ** 23 + 1), 10 ** 10)
        self.assertEqual(least_bell(k_book(), [1] * 9, K_LENGTHS, 10 ** 23), self.assert_least(
            k_book(), [1] * 9, K_LENGTHS, 10 ** 23))

    def test_bad_many(self):
        for many in [thing for thing in any_objects() if type(thing) is not int or thing < 0] + [-10 ** 23]:
            for book in (k_book(), Book(9, [])):
                for call in (lambda: least_bell(book, [1] * 9, K_LENGTHS, many),
                             lambda: least_bell(many=many, lengths=K_LENGTHS, rooms=[1] * 9, book=book)):
                    with self.assertRaises(BadMany) as caught:
                        call()
                    self.assertIs(caught.exception.many, many)


class Arguments(unittest.TestCase):

    def test_the_same_for_equal_arguments_and_for_tuples(self):
        for book, rooms, lengths in drawn_cases(40, 7):
            again = Book(book.gates(), as_tuples(book.ways()))
            told = exactly(levels(book, rooms, lengths))
            self.assertEqual(exactly(levels(book, rooms, lengths)), told)
            self.assertEqual(exactly(levels(lengths=tuple(lengths), rooms=tuple(rooms), book=again)), told)
            self.assertEqual(least_bell(many=7, lengths=tuple(lengths), rooms=tuple(rooms), book=again),
                             least_bell(book, rooms, lengths, 7))

    def test_told_lists_belong_to_the_caller(self):
        told = levels(k_book(), [1] * 9, K_LENGTHS)
        told.append((0, 0))
        self.assertEqual(levels(k_book(), [1] * 9, K_LENGTHS), [(2, 2), (4, 1)])

    def test_one_list_changed_in_place_is_judged_anew(self):
        rooms, lengths = [1] * 9, list(K_LENGTHS)
        self.assertEqual(levels(k_book(), rooms, lengths), [(2, 2), (4, 1)])
        rooms[6] = 0
        self.assertEqual(levels(k_book(), rooms, lengths), [(2, 2)])
        self.assertEqual(least_bell(k_book(), rooms, lengths, 8), 5)
        rooms[6] = 1
        lengths[6] = 3
        self.assertEqual(levels(k_book(), rooms, lengths), [(2, 2), (6, 1)])
        lengths[6] = True
        with self.assertRaises(BadLengths):
            levels(k_book(), rooms, lengths)

    def test_errors_in_order(self):
        wrong = [[1] * 2, [1] * 4, [], [1, 1, -1], [True] * 3, "111", None, 1, {}, [[1]] * 3, OPEN, len, deep(list)]
        for thing in wrong:
            for call in (lambda rooms, lengths: levels(OPEN, rooms, lengths),
                         lambda rooms, lengths: least_bell(OPEN, rooms, lengths, None)):
                with self.assertRaises(BadRooms) as caught:
                    call(thing, thing)
                self.assertIs(caught.exception.rooms, thing)
                with self.assertRaises(BadLengths) as caught:
                    call([1] * 3, thing)
                self.assertIs(caught.exception.lengths, thing)
        with self.assertRaises(BadMany):
            least_bell(OPEN, [1] * 3, [1] * 3, -1)
        for call in (lambda: levels(OPEN, [1] * 3, [1] * 3), lambda: least_bell(OPEN, [1] * 3, [1] * 3, 0)):
            with self.assertRaises(NotClosed) as caught:
                call()
            error = caught.exception
            self.assertEqual(exactly((error.one, error.gate, error.other)), exactly((0, 0, 2)))


if __name__ == "__main__":
    unittest.main()

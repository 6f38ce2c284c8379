"""[6.2], [6.3], [6.4], [6.5], [6.6], [1.2] where it speaks of gains and tolls, and the interface's line of tolls.py."""

import random
import unittest

from tests.drawn import books, closed_book, drawn_book, drawn_rooms, leap_rows, shuffled
from tests.test_gains import gains_of, plain_loses
from tests.things import any_objects, as_tuples, deep, exactly, is_closed, k_book, small_books
from waysthatcross.books import Book
from waysthatcross.errors import BadGains, BadRooms, BadTolls, Loses, NotClosed
from waysthatcross.gains import gain, loses
from waysthatcross.plans import most, plan_fault
from waysthatcross.tolls import best_tolls, cost, dearest, dearest_plan, toll_fault

K_GAINS = [2, -1, 1, 4, 4, 4, 4]
OPEN = Book(3, [[0, 1], [1, 2], [2, 0]])
# Of three ways over gate 0 each two have their leaps.
LEAPS = Book(7, [[1, 0, 2], [3, 0, 4], [5, 0, 6], [1, 4], [1, 6], [3, 2], [3, 6], [5, 2], [5, 4]])
NO_TOLLS_OF_K = [[0] * 8, [0] * 10, (), [0] * 8 + [-1], [-1] + [0] * 8, [True] * 9, [0] * 8 + [False],
                 [0] * 8 + [None], ["0"] * 9, "0" * 9, None, 0, True, {}, {gate: 0 for gate in range(9)}, [[0]] * 9,
                 [[0] * 9], k_book(), len, [0] * 8 + [deep(list)], deep(list), deep(tuple), deep(dict)]


def plain_fault(book, gains, thing):
    """Return what [6.2] says of any object."""
    if type(thing) not in (list, tuple) or len(thing) != book.gates():
        return ("form",)
    if [toll for toll in thing if type(toll) is not int or toll < 0]:
        return ("form",)
    for way, row in enumerate(book.ways()):
        if sum(thing[gate] for gate in row) < gains[way]:
            return ("way", way)
    return None


def greatest_gain(ways, rooms, gains):
    """Return the greatest gain of a plan that fits, by going through all of them."""
    if not ways:
        return 0
    gained = []
    for many in range(min(rooms[gate] for gate in ways[0]) + 1):
        left = [room - many if gate in ways[0] else room for gate, room in enumerate(rooms)]
        gained.append(many * gains[0] + greatest_gain(ways[1:], left, gains[1:]))
    return max(gained)


def sums_gains(draw, book, top):
    """Return gains that are one number less the sum of numbers at gates, and so fit."""
    parts = [draw.randint(0, top) for _ in range(book.gates())]
    whole = draw.randint(0, 3 * top)
    return [whole - sum(parts[gate] for gate in row) for row in book.ways()]


def drawn_cases(many, start, small=False):
    """Return pairs of a closed book and gains that fit, of several kinds."""
    draw = random.Random(start)
    cases = []
    for book in books(closed_book, many, start, small):
        drawn = [gains_of(draw, book, kind) for kind in range(5)] + [sums_gains(draw, book, 5)]
        drawn += [[draw.choice([1, 2, 2, 3]) for _ in book.ways()]]
        cases += [(book, gains) for gains in drawn if plain_loses(book, gains) is None]
    return cases


def leap_cases(many, start):
    """Return triples of a book of leaps, rooms and gains that fit, some of which a table has plans in fractions for."""
    draw = random.Random(start)
    cases = []
    for _ in range(many):
        rows = draw.randint(2, 3)
        things = draw.randint(1, 9 - 2 * rows)
        book = shuffled(draw, leap_rows(draw, things, rows), things + 2 * rows)
        gains = sums_gains(draw, book, draw.choice([0, 1, 3])) if draw.random() < 0.7 else [1] * len(book.ways())
        cases.append((book, [draw.choice([1, 1, 1, 2, 3]) for _ in range(book.gates())], gains))
    return cases


class Told(unittest.TestCase):

    def assert_just_one(self, book, rooms, gains):
        """Assert that a plan that fits gains as much as tolls that pay cost, and return how much this is."""
        told = dearest(book, rooms, gains)
        self.assertIs(type(told), int)
        plan, tolls = dearest_plan(book, rooms, gains), best_tolls(book, rooms, gains)
        for numbers, many in ((plan, len(book.ways())), (tolls, book.gates())):
            self.assertIs(type(numbers), list)
            self.assertEqual(len(numbers), many)
            self.assertEqual([number for number in numbers if type(number) is not int or number < 0], [])
        for gate in range(book.gates()):
            self.assertLessEqual(sum(many for row, many in zip(book.ways(), plan) if gate in row), rooms[gate])
        self.assertEqual(sum(many * worth for many, worth in zip(plan, gains)), told)
        self.assertIsNone(plain_fault(book, gains, tolls))
        self.assertEqual(sum(room * toll for room, toll in zip(rooms, tolls)), told)
        return told


class TollFault(unittest.TestCase):

    def assert_fault(self, fault, book, gains, thing):
        self.assertEqual(exactly(toll_fault(book, gains, thing)), exactly(fault))
        self.assertEqual(exactly(toll_fault(thing=thing, gains=tuple(gains), book=book)), exactly(fault))

    def test_k(self):
        self.assert_fault(None, k_book(), K_GAINS, [0, 0, 2, 2, 0, 4, 0, 2, 0])
        self.assert_fault(("way", 0), k_book(), K_GAINS, [0, 0, 1, 2, 0, 4, 0, 2, 0])
        self.assert_fault(("way", 4), k_book(), K_GAINS, [0, 0, 2, 1, 0, 4, 0, 2, 0])
        self.assert_fault(("way", 3), k_book(), K_GAINS, [0, 0, 2, 1, 0, 3, 0, 2, 0])
        self.assert_fault(("way", 2), k_book(), [0, 0, 1, 0, 0, 0, 0], [9, 9, 9, 9, 0, 9, 0, 0, 9])
        self.assert_fault(None, k_book(), [-1] * 7, (0,) * 9)

    def test_any_object(self):
        for book in (k_book(), OPEN, Book(1, [[0]]), Book(2, [[0], [1]]), Book(3, []), Book(0, [])):
            for worth in (-1, 0, 1, 7):
                gains = [worth] * len(book.ways())
                for thing in any_objects() + NO_TOLLS_OF_K:
                    self.assert_fault(plain_fault(book, gains, thing), book, gains, thing)

    def test_what_are_no_tolls(self):
        for thing in NO_TOLLS_OF_K:
            self.assert_fault(("form",), k_book(), [9] * 7, thing)
            self.assert_fault(("form",), k_book(), [-9] * 7, thing)

    def test_drawn_tolls_of_any_book(self):
        draw = random.Random(1)
        for book in books(drawn_book, 300, 1) + [OPEN]:
            for top in (3, 10 ** 12):
                gains = [draw.randint(-top, top) for _ in book.ways()]
                for scale in (1, 3, 9):
                    tolls = [draw.choice([0, draw.randint(0, top // scale)]) for _ in range(book.gates())]
                    self.assert_fault(plain_fault(book, gains, tolls), book, gains, tolls)
                self.assert_fault(None, book, gains, [max([0] + gains)] * book.gates())

    def test_just_as_much_is_enough(self):
        book = Book(2, [[0], [0, 1], [1]])
        self.assert_fault(None, book, [10 ** 12, 2 * 10 ** 12, 10 ** 12], [10 ** 12] * 2)
        self.assert_fault(("way", 1), book, [10 ** 12, 2 * 10 ** 12 + 1, 10 ** 12], [10 ** 12] * 2)
        self.assert_fault(("way", 0), book, [10 ** 12 + 1, 2 * 10 ** 12 + 1, 10 ** 12 + 1], [10 ** 12] * 2)
        self.assert_fault(("way", 2), book, [0, 0, 1], [10 ** 14, 0])

    def test_bad_gains(self):
        for gains in ([0] * 6, [0] * 8, None, [True] * 7, "0000000", {}, deep(list), [0] * 6 + [None]):
            for thing in ([0] * 9, None, gains):
                with self.assertRaises(BadGains) as caught:
                    toll_fault(k_book(), gains, thing)
                self.assertIs(caught.exception.gains, gains)


class Cost(unittest.TestCase):

    def test_drawn_books(self):
        draw = random.Random(2)
        for book in books(drawn_book, 200, 2) + [OPEN]:
            for top in (3, 10 ** 13):
                rooms = drawn_rooms(draw, book, top)
                tolls = [draw.randint(0, 10 * top) for _ in range(book.gates())]
                expected = 0
                for gate in range(book.gates()):
                    expected += rooms[gate] * tolls[gate]
                for told in (cost(book, rooms, tolls), cost(book, tuple(rooms), tuple(tolls)),
                             cost(tolls=tolls, rooms=rooms, book=book)):
                    self.assertEqual(exactly(told), exactly(expected))

    def test_edges(self):
        self.assertEqual(exactly(cost(Book(0, []), [], ())), exactly(0))
        self.assertEqual(cost(Book(1, [[0]]), [10 ** 13], [10 ** 14]), 10 ** 27)
        self.assertEqual(cost(k_book(), [1] * 9, [0, 0, 2, 2, 0, 4, 0, 2, 0]), 10)
        self.assertEqual(cost(OPEN, [1, 2, 3], [4, 5, 6]), 32)

    def test_errors(self):
        for tolls in NO_TOLLS_OF_K:
            with self.assertRaises(BadTolls) as caught:
                cost(k_book(), [1] * 9, tolls)
            self.assertIs(caught.exception.tolls, tolls)
            with self.assertRaises(BadRooms) as caught:
                cost(k_book(), tolls, tolls)
            self.assertIs(caught.exception.rooms, tolls)


class Examples(Told):

    def test_k(self):
        rooms = [1] * 9
        self.assertEqual(self.assert_just_one(k_book(), rooms, K_GAINS), 10)
        self.assertIsNone(plan_fault(k_book(), rooms, [1, 0, 0, 0, 0, 1, 1]))
        self.assertEqual(gain(k_book(), K_GAINS, [1, 0, 0, 0, 0, 1, 1]), 10)
        self.assertIsNone(toll_fault(k_book(), K_GAINS, [0, 0, 2, 2, 0, 4, 0, 2, 0]))
        self.assertEqual(cost(k_book(), rooms, [0, 0, 2, 2, 0, 4, 0, 2, 0]), 10)

    def test_gains_of_k_that_do_not_fit(self):
        for function in (dearest, dearest_plan, best_tolls):
            with self.assertRaises(Loses) as caught:
                function(k_book(), [1] * 9, [3, 5, 0, 0, 0, 0, 0])
            error = caught.exception
            self.assertEqual(exactly((error.one, error.gate, error.other)), exactly((0, 1, 1)))


class Dearest(Told):

    def test_all_plans_of_small_books(self):
        draw = random.Random(3)
        cases = [case for case in drawn_cases(120, 3, True) if len(case[0].ways()) < 8]
        told = [book for book in small_books(2, 4) if is_closed(book)]
        cases += [(book, [draw.randint(-1, 3) for _ in book.ways()]) for book in told for _ in range(3)]
        seen = 0
        for book, gains in cases:
            if plain_loses(book, gains) is None:
                seen += 1
                rooms = drawn_rooms(draw, book, 3)
                self.assertEqual(self.assert_just_one(book, rooms, gains), greatest_gain(book.ways(), rooms, gains))
        self.assertGreater(seen, 500)

    def test_all_plans_of_books_of_leaps(self):
        for book, rooms, gains in leap_cases(150, 4):
            if len(book.ways()) < 9:
                self.assertEqual(self.assert_just_one(book, rooms, gains), greatest_gain(book.ways(), rooms, gains))

    def test_drawn_books(self):
        draw = random.Random(5)
        for book, gains in drawn_cases(250, 5) + [(k_book(), K_GAINS)]:
            for top in (1, 4, 10 ** 13):
                self.assert_just_one(book, drawn_rooms(draw, book, top), gains)

    def test_great_rooms_and_gains(self):
        draw = random.Random(6)
        for book in books(closed_book, 150, 6) + [k_book(), LEAPS]:
            for gains in ([10 ** 12] * len(book.ways()), sums_gains(draw, book, 10 ** 11),
                          [10 ** 12 - draw.randint(0, 1) for _ in book.ways()]):
                if plain_loses(book, gains) is None:
                    for rooms in ([10 ** 13] * book.gates(), drawn_rooms(draw, book, 10 ** 13)):
                        self.assert_just_one(book, rooms, gains)

    def test_many_books_of_leaps(self):
        for book, rooms, gains in leap_cases(1500, 7):
            self.assert_just_one(book, rooms, gains)

    def test_whole_where_a_table_has_fractions(self):
        # Each begin and each end is of one of the three ways and of two leaps: halves of all would do, too.
        for room in (1, 3, 10 ** 13 - 1):
            self.assertEqual(self.assert_just_one(LEAPS, [room] * 7, [1] * 9), 3 * room)
            self.assertEqual(self.assert_just_one(LEAPS, [2] + [room] * 6, [5] * 9), 15 * room)
        book = Book(5, [[0, 1, 2], [0, 4], [3, 1, 4], [3, 2]])
        for rooms in ([1] * 5, [3] * 5, [10 ** 13 - 1] * 5, [3, 3, 2, 3, 2]):
            self.assertEqual(self.assert_just_one(book, rooms, [7] * 4), 7 * most(book, rooms))

    def test_all_gains_alike(self):
        draw = random.Random(8)
        for book in books(closed_book, 100, 8):
            rooms = drawn_rooms(draw, book, 9)
            for worth in (1, 2, 10 ** 12):
                told = self.assert_just_one(book, rooms, [worth] * len(book.ways()))
                self.assertEqual(told, worth * most(book, rooms))

    def test_gains_of_0_and_below(self):
        draw = random.Random(9)
        for book in books(closed_book, 100, 9):
            rooms = drawn_rooms(draw, book, 9)
            many = len(book.ways())
            for gains in ([0] * many, [-10 ** 12] * many, [-draw.randint(0, 1) for _ in range(many)]):
                self.assertEqual(self.assert_just_one(book, rooms, gains), 0)
        # One way alone that gains: it is gone as often as the least of its rooms.
        for way, row in enumerate(k_book().ways()):
            gains = [-5] * 7
            gains[way] = 3
            rooms = [4, 9, 7, 6, 8, 5, 3, 2, 1]
            self.assertEqual(self.assert_just_one(k_book(), rooms, gains), 3 * min(rooms[gate] for gate in row))

    def test_a_number_less_the_sum_of_numbers_at_gates(self):
        # [6.4]: such gains fit.
        draw = random.Random(10)
        for book in books(closed_book, 200, 10) + [k_book()]:
            for top in (1, 3, 10 ** 10):
                gains = sums_gains(draw, book, top)
                self.assertIsNone(loses(book, gains))
                self.assert_just_one(book, drawn_rooms(draw, book, 5), gains)

    def test_rooms_of_0(self):
        for gains in ([1] * 7, K_GAINS, [10 ** 12] * 7):
            self.assertEqual(self.assert_just_one(k_book(), [0] * 9, gains), 0)
            self.assert_just_one(k_book(), [0, 5, 5, 0, 5, 5, 5, 5, 5], gains)

    def test_books_without_ways_and_without_gates(self):
        for gates in range(4):
            book = Book(gates, [])
            for top in (0, 10 ** 13):
                self.assertEqual(exactly(dearest(book, [top] * gates, [])), exactly(0))
                self.assertEqual(exactly(dearest_plan(book, (top,) * gates, ())), exactly([]))
                self.assertIsNone(toll_fault(book, [], best_tolls(book, [top] * gates, [])))
                self.assertEqual(self.assert_just_one(book, [top] * gates, []), 0)

    def test_one_way(self):
        self.assertEqual(self.assert_just_one(Book(1, [[0]]), [10 ** 13], [10 ** 12]), 10 ** 25)
        self.assertEqual(self.assert_just_one(Book(3, [[2, 0]]), [4, 0, 3], [5]), 15)
        self.assertEqual(dearest_plan(Book(3, [[2, 0]]), [4, 0, 3], [5]), [3])
        self.assertEqual(dearest_plan(Book(3, [[2, 0]]), [4, 0, 3], [-5]), [0])

    def test_nine_gates_thirty_ways(self):
        draw = random.Random(11)
        book = Book(9, [[gate] for gate in range(9)] + [draw.sample(range(9), 9) for _ in range(21)])
        self.assert_just_one(book, [10 ** 13 - gate for gate in range(9)], [2] * 9 + [1] * 21)
        grid = Book(9, [[a, b, c] for a in (0, 1, 2) for b in (3, 4, 5) for c in (6, 7, 8)])
        for top in (1, 10 ** 13):
            for _ in range(20):
                gains = sums_gains(draw, grid, 9)
                self.assert_just_one(grid, drawn_rooms(draw, grid, top), gains)

    def test_the_same_for_equal_arguments_and_for_tuples(self):
        draw = random.Random(12)
        for book, gains in drawn_cases(60, 12):
            rooms = drawn_rooms(draw, book, 4)
            again = Book(book.gates(), as_tuples(book.ways()))
            for function in (dearest, dearest_plan, best_tolls):
                told = exactly(function(book, rooms, gains))
                self.assertEqual(exactly(function(book, rooms, gains)), told)
                self.assertEqual(exactly(function(gains=tuple(gains), rooms=tuple(rooms), book=again)), told)


class Errors(unittest.TestCase):

    def test_not_closed_ahead_of_loses(self):
        for function in (dearest, dearest_plan, best_tolls):
            for gains in ([1, 1, 1], [0, 0, 0], [9, 5, -1]):
                with self.assertRaises(NotClosed) as caught:
                    function(OPEN, [1, 1, 1], gains)
                error = caught.exception
                self.assertEqual(exactly((error.one, error.gate, error.other)), exactly((0, 0, 2)))

    def test_loses_with_the_first_triple_behind_all_others(self):
        draw = random.Random(13)
        seen = 0
        for book in books(closed_book, 400, 13):
            gains = gains_of(draw, book, draw.choice([1, 2, 4]))
            triple = plain_loses(book, gains)
            for function in (dearest, dearest_plan, best_tolls):
                if triple is not None:
                    seen += 1
                    with self.assertRaises(Loses) as caught:
                        function(book, [0] * book.gates(), gains)
                    error = caught.exception
                    self.assertEqual(exactly((error.one, error.gate, error.other)), exactly(triple))
                    with self.assertRaises(BadRooms):
                        function(book, [0] * (book.gates() + 1), gains)
                    with self.assertRaises(BadGains):
                        function(book, [0] * book.gates(), gains + [0])
                else:
                    function(book, [0] * book.gates(), gains)
        self.assertGreater(seen, 100)

    def test_gains_changed_in_place_are_judged_anew(self):
        gains, rooms = list(K_GAINS), [1] * 9
        self.assertEqual(dearest(k_book(), rooms, gains), 10)
        gains[1] = 100
        with self.assertRaises(Loses):
            dearest(k_book(), rooms, gains)
        gains[1] = -1
        rooms[6] = 0
        self.assertEqual(dearest(k_book(), rooms, gains), 8)
        rooms[6] = 1
        self.assertEqual(dearest(k_book(), rooms, gains), 10)


if __name__ == "__main__":
    unittest.main()

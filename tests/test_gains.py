"""[6.1], [6.2], [6.6] where they speak of gains, and the interface's line of gains.py."""

import random
import unittest

from tests.drawn import books, closed_book, drawn_book
from tests.things import crossing_lot, deep, exactly, is_closed, k_book, small_books
from waysthatcross.books import Book
from waysthatcross.errors import BadGains, BadPlan, NotClosed
from waysthatcross.gains import gain, loses

OPEN = Book(3, [[0, 1], [1, 2], [2, 0]])
NO_GAINS_OF_K = [[0] * 6, [0] * 8, (), [True] + [0] * 6, [0] * 6 + [False], [0] * 6 + [None], ["0"] * 7, "0000000",
                 None, 0, -1, True, {}, {way: 0 for way in range(7)}, [[0]] * 7, [[0] * 7], k_book(), [k_book()] * 7,
                 len, [0] * 6 + [deep(list)], deep(list), deep(tuple)]


def best(ways, gains, one, gate, other):
    """Return the best of a crossing."""
    lot = crossing_lot(ways, one, gate, other)
    return max([0] + [gains[way] for way, row in enumerate(ways) if set(row) <= lot])


def plain_loses(book, gains):
    """Return the first triple, ascending, by which gains do not fit, by going through all triples."""
    ways = book.ways()
    for one in range(len(ways)):
        for gate in range(book.gates()):
            for other in range(len(ways)):
                if one != other and gate in ways[one] and gate in ways[other] and min(gains[one], gains[other]) > 0:
                    both = best(ways, gains, one, gate, other) + best(ways, gains, other, gate, one)
                    if both < gains[one] + gains[other]:
                        return (one, gate, other)
    return None


def gains_of(draw, book, kind):
    """Return drawn gains: ones that fit, near ones, or any."""
    many = len(book.ways())
    if kind == 0:
        return [1] * many
    if kind == 1:
        return [draw.randint(-3, 5) for _ in range(many)]
    if kind == 2:
        return [draw.randint(-10 ** 12, 10 ** 12) for _ in range(many)]
    parts = [draw.choice([0, 1, 2, 3, 10 ** 11]) for _ in range(book.gates())]
    whole = draw.choice([0, 2, 5, 9, 10 ** 12])
    gains = [whole - sum(parts[gate] for gate in row) for row in book.ways()]
    if kind == 4 and gains:
        gains[draw.randrange(many)] += draw.choice([-1, 1])
    return gains


class Examples(unittest.TestCase):

    def test_gains_of_k_that_fit(self):
        gains = [2, -1, 1, 4, 4, 4, 4]
        self.assertIsNone(loses(k_book(), gains))
        self.assertEqual(gain(k_book(), gains, [1, 0, 0, 0, 0, 1, 1]), 10)
        # They are 6 less the lengths of [7.7].
        lengths = [1, 2, 1, 1, 3, 1, 1, 1, 1]
        self.assertEqual(gains, [6 - sum(lengths[gate] for gate in row) for row in k_book().ways()])

    def test_gains_of_k_that_do_not(self):
        self.assertEqual(exactly(loses(k_book(), [3, 5, 0, 0, 0, 0, 0])), exactly((0, 1, 1)))


class LosesTold(unittest.TestCase):

    def assert_told_plainly(self, book, gains):
        expected = exactly(plain_loses(book, gains))
        self.assertEqual(exactly(loses(book, gains)), expected)
        self.assertEqual(exactly(loses(gains=tuple(gains), book=book)), expected)

    def test_all_small_closed_books(self):
        draw = random.Random(1)
        for book in small_books(2, 4) + small_books(3, 2):
            if is_closed(book):
                for _ in range(4):
                    self.assert_told_plainly(book, [draw.randint(-1, 3) for _ in book.ways()])

    def test_drawn_books(self):
        draw = random.Random(2)
        for book in books(closed_book, 400, 2) + books(closed_book, 200, 3, True) + [k_book()]:
            for kind in range(5):
                self.assert_told_plainly(book, gains_of(draw, book, kind))

    def test_many_gains_of_k(self):
        draw = random.Random(4)
        fit, lose = 0, 0
        for _ in range(1500):
            gains = [draw.choice([-2, 0, 1, 2, 3]) for _ in range(7)]
            self.assert_told_plainly(k_book(), gains)
            fit, lose = fit + (loses(k_book(), gains) is None), lose + (loses(k_book(), gains) is not None)
        self.assertGreater(fit, 50)
        self.assertGreater(lose, 50)

    def test_what_fits(self):
        # [6.4]: one number less the sum, over a way's gates, of told numbers; all gains 1 are such ones.
        draw = random.Random(5)
        for book in books(closed_book, 300, 5) + [k_book()]:
            self.assertIsNone(loses(book, [1] * len(book.ways())))
            self.assertIsNone(loses(book, gains_of(draw, book, 3)))

    def test_gains_of_0_and_below_are_not_asked(self):
        book = k_book()
        for gains in ([0] * 7, [-5] * 7, [9, 0, 0, 0, 0, 0, 0], [9, -9, 0, 0, 0, 0, 0], [-10 ** 12] * 6 + [10 ** 12]):
            self.assertIsNone(loses(book, gains))
        self.assertEqual(loses(book, [9, 1, 0, 0, 0, 0, 0]), (0, 1, 1))

    def test_a_best_below_0_counts_as_0(self):
        # Of ways 0 and 1 over gate 1 the crossings hold ways 2 and 3.
        book = Book(5, [[0, 1, 2], [3, 1, 4], [0, 4], [3, 2]])
        self.assertIsNone(loses(book, [1, 1, 2, -5]))
        self.assertIsNone(loses(book, [1, 1, 2, 0]))
        self.assertEqual(loses(book, [1, 1, 1, -1]), (0, 1, 1))
        self.assertIsNone(loses(book, [1, 1, 1, 1]))

    def test_just_as_much_is_enough(self):
        book = Book(5, [[0, 1, 2], [3, 1, 4], [0, 4], [3, 2]])
        self.assertIsNone(loses(book, [3, 4, 5, 2]))
        self.assertEqual(loses(book, [3, 4, 5, 1]), (0, 1, 1))
        great = 10 ** 12
        self.assertIsNone(loses(book, [great, great - 1, great, great - 1]))
        self.assertEqual(loses(book, [great, great, great, great - 1]), (0, 1, 1))

    def test_the_first_triple_by_one_then_gate_then_other(self):
        # On way 0 gate 1 lies ahead of gate 0.
        book = Book(2, [[1, 0], [0, 1], [0], [1]])
        self.assertEqual(loses(book, [9, 2, 1, 1]), (0, 0, 1))
        self.assertEqual(loses(book, [9, 2, 2, 1]), (0, 1, 1))
        self.assertEqual(loses(book, [9, 2, 1, 2]), (0, 0, 1))
        self.assertIsNone(loses(book, [9, 2, 2, 2]))
        book = Book(3, [[2], [0], [1, 0], [0, 1], [1]])
        self.assertEqual(loses(book, [9, 2, 9, 2, 1]), (2, 1, 3))
        self.assertEqual(loses(book, [9, 1, 9, 2, 2]), (2, 0, 3))

    def test_edges(self):
        for gates in range(3):
            self.assertIsNone(loses(Book(gates, []), []))
        self.assertIsNone(loses(Book(1, [[0]]), (-1,)))
        self.assertIsNone(loses(Book(2, [[0], [1]]), [10 ** 12, 10 ** 12]))
        self.assertIsNone(loses(Book(2, [[0, 1], [1]]), [10 ** 12, 1]))

    def test_nine_gates_thirty_ways(self):
        draw = random.Random(6)
        book = Book(9, [[gate] for gate in range(9)] + [draw.sample(range(9), 9) for _ in range(21)])
        self.assert_told_plainly(book, [1] * 30)
        self.assert_told_plainly(book, [1] * 9 + [2] * 21)
        self.assert_told_plainly(book, [draw.randint(-10 ** 12, 10 ** 12) for _ in range(30)])

    def test_bad_gains(self):
        for gains in NO_GAINS_OF_K:
            for call in (lambda: loses(k_book(), gains), lambda: loses(gains=gains, book=k_book())):
                with self.assertRaises(BadGains) as caught:
                    call()
                self.assertIs(caught.exception.gains, gains)

    def test_not_closed(self):
        for gains in ([0, 0, 0], [1, 1, 1], (-1, 5, 5)):
            with self.assertRaises(NotClosed) as caught:
                loses(OPEN, gains)
            error = caught.exception
            self.assertEqual((error.one, error.gate, error.other), (0, 0, 2))


class GainTold(unittest.TestCase):

    def test_drawn_books(self):
        draw = random.Random(7)
        for book in books(drawn_book, 300, 7) + [OPEN]:
            for top in (3, 10 ** 13):
                gains = [draw.randint(-min(top, 10 ** 12), min(top, 10 ** 12)) for _ in book.ways()]
                plan = [draw.randint(0, top) for _ in book.ways()]
                expected = 0
                for way in range(len(book.ways())):
                    expected += plan[way] * gains[way]
                for told in (gain(book, gains, plan), gain(book, tuple(gains), tuple(plan)),
                             gain(plan=plan, gains=gains, book=book)):
                    self.assertEqual(exactly(told), exactly(expected))

    def test_edges(self):
        for gates in range(3):
            self.assertEqual(exactly(gain(Book(gates, []), [], ())), exactly(0))
        self.assertEqual(gain(Book(1, [[0]]), [-10 ** 12], [10 ** 13]), -10 ** 25)
        self.assertEqual(gain(Book(1, [[0]]), [10 ** 12], [10 ** 13]), 10 ** 25)
        self.assertEqual(gain(k_book(), [1, 2, 4, 8, 16, 32, 64], [1] * 7), 127)
        self.assertEqual(gain(k_book(), [-1, 2, -4, 0, 0, 0, 1], (3, 3, 3, 3, 3, 3, 0)), -9)
        self.assertEqual(gain(OPEN, [1, 2, 3], [1, 1, 1]), 6)

    def test_bad_gains(self):
        for gains in NO_GAINS_OF_K:
            for plan in ([0] * 7, [0], None):
                with self.assertRaises(BadGains) as caught:
                    gain(k_book(), gains, plan)
                self.assertIs(caught.exception.gains, gains)

    def test_bad_plan(self):
        for plan in NO_GAINS_OF_K + [[0] * 6 + [-1], [-1] + [0] * 6]:
            for call in (lambda: gain(k_book(), [-1] * 7, plan),
                         lambda: gain(plan=plan, gains=[1] * 7, book=k_book())):
                with self.assertRaises(BadPlan) as caught:
                    call()
                self.assertIs(caught.exception.plan, plan)


if __name__ == "__main__":
    unittest.main()

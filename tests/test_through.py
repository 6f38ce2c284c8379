"""[7.4], [7.5], [7.7], [1.2] where it speaks of time, and the interface's line of through.py."""

import random
import unittest

from tests.drawn import books, closed_book, drawn_book, drawn_rooms
from tests.test_timed import K_LENGTHS, K_STRETCHES, OPEN, drawn_lengths, entries, plain_gets_by, plain_sent_fault
from tests.things import as_tuples, deep, exactly, is_closed, k_book, small_books
from waysthatcross.books import Book
from waysthatcross.errors import BadBell, BadLengths, BadRooms, BadTolls, NotClosed
from waysthatcross.gains import loses
from waysthatcross.through import best_sendings, best_stretches, labels, through
from waysthatcross.timed import gets_by, sent, sent_fault
from waysthatcross.tolls import best_tolls, dearest, dearest_plan, toll_fault


def greatest_of(journeys, rooms):
    """Return the greatest number of journeys, with repetitions, each a list of pairs (turn, gate), that have room."""
    known = {}

    def most_from(at, left):
        if at == len(journeys):
            return 0
        state = (at, tuple(sorted(left.items())))
        if state not in known:
            times, best = 0, most_from(at + 1, left)
            while all(left[pair] > times for pair in journeys[at]):
                times += 1
                rest = {pair: room - times if pair in journeys[at] else room for pair, room in left.items()}
                best = max(best, times + most_from(at + 1, {pair: rest[pair] for pair in rest}))
            known[state] = best
        return known[state]

    return most_from(0, {pair: rooms[pair[1]] for journey in journeys for pair in journey})


def laid_out(book, lengths, bell):
    """Return all journeys that are through by the bell: those of all ways, begun at all turns."""
    told = []
    for way in range(len(book.ways())):
        for begin in range(bell + 1):
            pairs, end = entries(book, lengths, way, begin)
            if end <= bell:
                told.append(pairs)
    return told


def plain_labels(book, lengths, tolls):
    """Return what [7.5] says, gate by gate."""
    told = []
    for gate in range(book.gates()):
        sums = []
        for row in book.ways():
            if gate in row:
                ahead = row[:row.index(gate)]
                sums.append(sum(lengths[part] + tolls[part] for part in ahead))
        told.append(min(sums, default=0))
    return told


def drawn_bell(draw, book, lengths):
    return draw.choice([0, draw.randint(0, 5), draw.randint(0, 2 * sum(lengths) + 2), sum(lengths)])


class Told(unittest.TestCase):

    def assert_just_one(self, book, rooms, lengths, bell, plainly=False):
        """Assert that sendings send as many as stretches cost, and return how many these are."""
        told = through(book, rooms, lengths, bell)
        self.assertIs(type(told), int)
        sendings = best_sendings(book, rooms, lengths, bell)
        self.assertIs(type(sendings), list)
        self.assertEqual({(type(part), len(part)) for part in sendings} - {(tuple, 4)}, set())
        self.assertIsNone(sent_fault(book, rooms, lengths, bell, sendings))
        self.assertEqual(sent(sendings), told)
        stretches = best_stretches(book, rooms, lengths, bell)
        self.assertEqual(exactly(stretches), exactly([(first, many) for first, many in stretches]))
        self.assertEqual(len(stretches), book.gates())
        self.assertIsNone(gets_by(book, lengths, bell, stretches))
        self.assertEqual(sum(room * many for room, (_, many) in zip(rooms, stretches)), told)
        if plainly:
            self.assertIsNone(plain_sent_fault(book, rooms, lengths, bell, sendings))
            self.assertIsNone(plain_gets_by(book, lengths, bell, stretches))
        return told


class Examples(Told):

    def test_k(self):
        book, rooms = k_book(), [1] * 9
        self.assertEqual(self.assert_just_one(book, rooms, K_LENGTHS, 5, True), 10)
        tolls = [0, 0, 2, 2, 0, 4, 0, 2, 0]
        self.assertEqual(exactly(labels(book, K_LENGTHS, tolls)), exactly([0, 1, 3, 0, 1, 1, 0, 3, 0]))
        self.assertIsNone(gets_by(book, K_LENGTHS, 5, K_STRETCHES))
        self.assertEqual(K_STRETCHES, list(zip([0, 1, 3, 0, 1, 1, 0, 3, 0], tolls)))


class Through(Told):

    def test_the_most_of_ways_laid_out_turn_by_turn(self):
        draw = random.Random(1)
        told = [book for book in small_books(2, 4) if is_closed(book)][::3] + books(closed_book, 250, 1, True)
        seen = 0
        for book in told + [k_book()]:
            lengths = [draw.choice([0, 0, 1, 2, 3]) for _ in range(book.gates())]
            rooms = [draw.choice([0, 1, 1, 2]) for _ in range(book.gates())]
            bell = draw.randint(0, 4)
            journeys = laid_out(book, lengths, bell)
            if len(journeys) < 11:
                seen += len(journeys) > 1
                expected = greatest_of(journeys, rooms)
                self.assertEqual(self.assert_just_one(book, rooms, lengths, bell, True), expected)
        self.assertGreater(seen, 100)

    def test_near_bells_turn_by_turn(self):
        draw = random.Random(2)
        for book in books(closed_book, 200, 2) + [k_book()]:
            lengths, rooms = drawn_lengths(draw, book, 4), drawn_rooms(draw, book, 4)
            self.assert_just_one(book, rooms, lengths, drawn_bell(draw, book, lengths), True)

    def test_far_bells(self):
        draw = random.Random(3)
        for book in books(closed_book, 250, 3) + [k_book()]:
            lengths = [draw.choice([0, draw.randint(0, 10 ** 9)]) for _ in range(book.gates())]
            for bell in (10 ** 12, sum(lengths), draw.randint(0, 10 ** 10)):
                self.assert_just_one(book, drawn_rooms(draw, book, 10 ** 13), lengths, bell)

    def test_bells_below_all_lengths(self):
        book, rooms = k_book(), [10 ** 13] * 9
        for lengths, bell in (([10 ** 9] * 9, 2 * 10 ** 9 - 1), ([1] * 9, 1), ([1] * 9, 0), ([5] * 9, 9)):
            self.assertEqual(self.assert_just_one(book, rooms, lengths, bell), 0)
            self.assertEqual(best_sendings(book, rooms, lengths, bell), [])
            self.assertGreater(self.assert_just_one(book, rooms, lengths, bell + 2), 0)

    def test_lengths_of_0(self):
        # As many as the most, at each turn.
        for bell in (0, 1, 10 ** 12):
            self.assertEqual(self.assert_just_one(k_book(), [1] * 9, [0] * 9, bell), 3 * (bell + 1))
            self.assertEqual(self.assert_just_one(k_book(), [2, 1, 2, 2, 1, 2, 2, 2, 1], [0] * 9, bell), 6 * (bell + 1))

    def test_rooms_of_0(self):
        for bell in (0, 5, 10 ** 12):
            self.assertEqual(self.assert_just_one(k_book(), [0] * 9, K_LENGTHS, bell), 0)

    def test_without_ways_and_without_gates(self):
        for gates in range(3):
            book = Book(gates, [])
            for bell in (0, 10 ** 12):
                self.assertEqual(self.assert_just_one(book, [3] * gates, [2] * gates, bell), 0)
                self.assertEqual(exactly(best_sendings(book, [3] * gates, [2] * gates, bell)), exactly([]))
                self.assertEqual(exactly(labels(book, (2,) * gates, (1,) * gates)), exactly([0] * gates))

    def test_one_way(self):
        for length in (0, 1, 10 ** 9):
            for bell in (0, length, length + 1, 10 ** 12):
                expected = max(0, bell + 1 - length) * 10 ** 13
                self.assertEqual(self.assert_just_one(Book(1, [[0]]), [10 ** 13], [length], bell), expected)

    def test_gains_of_a_bell(self):
        # [7.5]: the bell and one, less all lengths of a way's gates, are gains that fit, and dearest is through.
        draw = random.Random(4)
        for book in books(closed_book, 120, 4):
            lengths, rooms = drawn_lengths(draw, book, 6), drawn_rooms(draw, book, 5)
            bell = drawn_bell(draw, book, lengths)
            gains = [bell + 1 - sum(lengths[gate] for gate in row) for row in book.ways()]
            self.assertIsNone(loses(book, gains))
            self.assertEqual(through(book, rooms, lengths, bell), dearest(book, rooms, gains))
            again = [(way, 0, bell - sum(lengths[gate] for gate in book.ways()[way]), many)
                     for way, many in enumerate(dearest_plan(book, rooms, gains)) if many and gains[way] > 0]
            self.assertIsNone(sent_fault(book, rooms, lengths, bell, again))
            self.assertEqual(sent(again), through(book, rooms, lengths, bell))

    def test_the_same_for_equal_arguments_and_for_tuples(self):
        draw = random.Random(5)
        for book in books(closed_book, 80, 5):
            lengths, rooms = drawn_lengths(draw, book, 6), drawn_rooms(draw, book, 5)
            bell = drawn_bell(draw, book, lengths)
            again = Book(book.gates(), as_tuples(book.ways()))
            for function in (through, best_sendings, best_stretches):
                told = exactly(function(book, rooms, lengths, bell))
                self.assertEqual(exactly(function(book, rooms, lengths, bell)), told)
                tuples = {"rooms": tuple(rooms), "lengths": tuple(lengths)}
                self.assertEqual(exactly(function(bell=bell, book=again, **tuples)), told)

    def test_two_rooms_and_two_lengths_in_turns(self):
        book, lengths = k_book(), list(K_LENGTHS)
        self.assertEqual(through(book, [1] * 9, lengths, 5), 10)
        self.assertEqual(through(book, [2] * 9, lengths, 5), 20)
        self.assertEqual(through(book, [1] * 9, [0] * 9, 5), 18)
        self.assertEqual(through(book, [1] * 9, lengths, 5), 10)
        lengths[0] = 0
        self.assertEqual(through(book, [1] * 9, lengths, 5), 11)
        lengths[0] = 1
        self.assertEqual(through(book, [1] * 9, lengths, 5), 10)


class Labels(unittest.TestCase):

    def test_any_book_and_any_tolls(self):
        draw = random.Random(6)
        for book in books(drawn_book, 300, 6) + books(drawn_book, 200, 7, True) + [k_book(), OPEN]:
            for top in (3, 10 ** 9):
                lengths = drawn_lengths(draw, book, top)
                tolls = [draw.choice([0, draw.randint(0, top * 10 ** 5)]) for _ in range(book.gates())]
                expected = exactly(plain_labels(book, lengths, tolls))
                self.assertEqual(exactly(labels(book, lengths, tolls)), expected)
                self.assertEqual(exactly(labels(tolls=tuple(tolls), lengths=tuple(lengths), book=book)), expected)

    def test_edges(self):
        self.assertEqual(labels(OPEN, [1, 2, 3], [10, 20, 30]), [0, 0, 0])
        self.assertEqual(labels(Book(3, [[0, 1]]), [1, 2, 3], [10, 20, 30]), [0, 11, 0])
        self.assertEqual(labels(Book(3, [[1, 0]]), [1, 2, 3], [10, 20, 30]), [22, 0, 0])
        self.assertEqual(labels(Book(2, [[0, 1]]), [10 ** 9, 0], [10 ** 14, 0]), [0, 10 ** 14 + 10 ** 9])

    def test_whatever_tolls_that_pay_stop_everybody(self):
        draw = random.Random(7)
        for book in books(closed_book, 250, 8) + books(closed_book, 150, 9, True) + [k_book()]:
            for top in (4, 10 ** 9):
                lengths = drawn_lengths(draw, book, top)
                bell = drawn_bell(draw, book, lengths)
                gains = [bell + 1 - sum(lengths[gate] for gate in row) for row in book.ways()]
                tolls = [draw.choice([0, draw.randint(0, max([1] + gains))]) for _ in range(book.gates())]
                while toll_fault(book, gains, tolls) is not None:
                    way = toll_fault(book, gains, tolls)[1]
                    less = gains[way] - sum(tolls[gate] for gate in book.ways()[way])
                    tolls[draw.choice(book.ways()[way])] += draw.randint((less + 1) // 2, less)
                told = list(zip(labels(book, lengths, tolls), tolls))
                self.assertIsNone(gets_by(book, lengths, bell, told))
                if top == 4:
                    self.assertIsNone(plain_gets_by(book, lengths, bell, told))

    def test_the_best_tolls_of_the_gains(self):
        draw = random.Random(8)
        for book in books(closed_book, 100, 10):
            lengths, rooms = drawn_lengths(draw, book, 5), drawn_rooms(draw, book, 5)
            bell = drawn_bell(draw, book, lengths)
            gains = [bell + 1 - sum(lengths[gate] for gate in row) for row in book.ways()]
            tolls = best_tolls(book, rooms, gains)
            self.assertIsNone(gets_by(book, lengths, bell, list(zip(labels(book, lengths, tolls), tolls))))

    def test_bad_tolls_behind_bad_lengths(self):
        wrong = [[1] * 2, [1] * 4, [], [1, 1, -1], [True] * 3, "111", None, 1, {}, [[1]] * 3, OPEN, len, deep(list)]
        for tolls in wrong:
            with self.assertRaises(BadTolls) as caught:
                labels(OPEN, [1, 2, 3], tolls)
            self.assertIs(caught.exception.tolls, tolls)
            with self.assertRaises(BadLengths) as caught:
                labels(OPEN, tolls, tolls)
            self.assertIs(caught.exception.lengths, tolls)


class Errors(unittest.TestCase):

    def test_in_order(self):
        wrong = [[1] * 2, [1] * 4, [], [1, 1, -1], [True] * 3, "111", None, 1, {}, [[1]] * 3, OPEN, len, deep(tuple)]
        for function in (through, best_sendings, best_stretches):
            for thing in wrong:
                with self.assertRaises(BadRooms) as caught:
                    function(OPEN, thing, thing, None)
                self.assertIs(caught.exception.rooms, thing)
                with self.assertRaises(BadLengths) as caught:
                    function(OPEN, [1] * 3, thing, None)
                self.assertIs(caught.exception.lengths, thing)
            for bell in (None, -1, True, "5", [5], -10 ** 12, len, {}, deep(dict)):
                with self.assertRaises(BadBell) as caught:
                    function(OPEN, [1] * 3, [1] * 3, bell)
                self.assertIs(caught.exception.bell, bell)
            with self.assertRaises(NotClosed) as caught:
                function(OPEN, [1] * 3, [1] * 3, 0)
            error = caught.exception
            self.assertEqual(exactly((error.one, error.gate, error.other)), exactly((0, 0, 2)))


if __name__ == "__main__":
    unittest.main()

"""[1.1], [1.2], and what [8.1], [8.2] say that holds, by the functions that tell of crossings, cuts and plans."""

import random
import unittest

from tests.drawn import books, closed_book, drawn_rooms
from tests.test_timed import drawn_lengths
from tests.test_tolls import sums_gains
from tests.things import cuts, k_book, lots, small_books
from waysthatcross.changed import behind, beside, freed, least_ways, put_in, struck, turned
from waysthatcross.crossings import lack
from waysthatcross.cuts import cut_below, is_cut, room_of, small_cuts
from waysthatcross.errors import Alone
from waysthatcross.gains import gain, loses
from waysthatcross.gaps import gap
from waysthatcross.leastcuts import farthest, least_cuts, nearest
from waysthatcross.levels import least_bell
from waysthatcross.plans import by_room, most, plan_fault, plan_of
from waysthatcross.through import best_sendings, best_stretches, through
from waysthatcross.timed import gets_by, sent, sent_fault
from waysthatcross.tolls import best_tolls, cost, dearest, dearest_plan, toll_fault


def closed_books(many, start):
    """Return K, all closed books of two gates, and drawn ones, half of them small."""
    told = [book for book in small_books(2, 3) if lack(book) is None]
    return [k_book()] + told + books(closed_book, many, start) + books(closed_book, many, start + 1, True)


def drawn_pairs(many, start):
    """Return pairs of closed books with at most nine gates and thirty ways together, and drawn rooms of both."""
    draw = random.Random(start)
    told = closed_books(80, start)
    pairs = [(draw.choice(told), draw.choice(told)) for _ in range(many)]
    return [(one, drawn_rooms(draw, one, 9), other, drawn_rooms(draw, other, 9)) for one, other in pairs
            if one.gates() + other.gates() <= 9 and len(one.ways()) * max(1, len(other.ways())) <= 30]


class OneBook(unittest.TestCase):

    def test_closed_ones_of_closed_ones(self):
        for book in closed_books(150, 1):
            self.assertIsNone(lack(book))
            self.assertIsNone(lack(turned(book)))
            self.assertIsNone(lack(least_ways(book)))
            for gate in range(book.gates()):
                self.assertIsNone(lack(struck(book, gate)))
                if [gate] not in book.ways():
                    self.assertIsNone(lack(freed(book, gate)))

    def test_turned_has_the_same_cuts_and_the_same_most(self):
        draw = random.Random(2)
        for book in closed_books(100, 2):
            rooms = drawn_rooms(draw, book, 9)
            self.assertEqual(small_cuts(turned(book)), small_cuts(book))
            self.assertEqual(most(turned(book), rooms), most(book, rooms))

    def test_least_ways_has_the_same_cuts(self):
        draw = random.Random(3)
        for book in closed_books(100, 3):
            least = least_ways(book)
            self.assertEqual(small_cuts(least), small_cuts(book))
            for lot in lots(book):
                self.assertIs(is_cut(least, lot), is_cut(book, lot))
            rooms = drawn_rooms(draw, book, 9)
            self.assertEqual(most(least, rooms), most(book, rooms))
            for gate in range(book.gates()):
                self.assertEqual(by_room(least, rooms, gate), by_room(book, rooms, gate))

    def test_least_ways_of_books_that_are_not_closed(self):
        for book in small_books(3, 3)[::5]:
            self.assertEqual(small_cuts(least_ways(book)), small_cuts(book))

    def test_struck_is_a_gate_of_no_room_and_freed_is_none_at_all(self):
        draw = random.Random(4)
        for book in closed_books(100, 4):
            rooms = drawn_rooms(draw, book, 9)
            for gate in range(book.gates()):
                base, top = by_room(book, rooms, gate)
                self.assertEqual(most(struck(book, gate), rooms), base)
                if top is None:
                    with self.assertRaises(Alone):
                        freed(book, gate)
                else:
                    self.assertEqual(most(freed(book, gate), rooms), top)


class TwoBooks(unittest.TestCase):

    def test_closed_ones_of_closed_ones(self):
        for one, _, other, _ in drawn_pairs(700, 5):
            self.assertIsNone(lack(behind(one, other)))
            self.assertIsNone(lack(beside(one, other)))
            for gate in range(one.gates()):
                self.assertIsNone(lack(put_in(one, gate, other)))

    def test_behind_one_another_the_most_is_the_lesser_one(self):
        for one, first, other, last in drawn_pairs(500, 6):
            self.assertEqual(most(behind(one, other), first + last), min(most(one, first), most(other, last)))

    def test_side_by_side_the_most_is_the_sum(self):
        for one, first, other, last in drawn_pairs(500, 7):
            self.assertEqual(most(beside(one, other), first + last), most(one, first) + most(other, last))

    def test_put_in_a_gate_it_is_as_if_its_room_were_the_other_books_most(self):
        for one, first, other, last in drawn_pairs(400, 8):
            for gate in range(one.gates()):
                rooms = list(first)
                rooms[gate] = most(other, last)
                told = put_in(one, gate, other)
                self.assertEqual(most(told, first + last), most(one, rooms))
                for part in range(one.gates()):
                    if part != gate:
                        self.assertEqual(by_room(told, first + last, part), by_room(one, rooms, part))

    def test_small_cuts_of_two_books(self):
        for one, _, other, _ in drawn_pairs(300, 9):
            first = small_cuts(one)
            last = [[gate + one.gates() for gate in lot] for lot in small_cuts(other)]
            self.assertEqual(small_cuts(beside(one, other)), sorted(lot + more for lot in first for more in last))
            if one.ways() and other.ways():
                self.assertEqual(small_cuts(behind(one, other)), sorted(first + last))
            else:
                self.assertEqual(small_cuts(behind(one, other)), [[]])

    def test_of_k_and_k(self):
        # More gates and ways than the limits of other books, but no more than is told.
        rooms = [1] * 18
        self.assertIsNone(lack(beside(k_book(), k_book())))
        self.assertEqual(most(beside(k_book(), k_book()), rooms), 6)
        self.assertEqual(sum(plan_of(beside(k_book(), k_book()), rooms, 6)), 6)
        self.assertIsNone(lack(behind(k_book(), k_book())))
        self.assertEqual(most(behind(k_book(), k_book()), rooms), 3)


class ThePromise(unittest.TestCase):

    def test_for_every_closed_book_and_all_rooms(self):
        draw = random.Random(10)
        for book in closed_books(60, 10):
            rooms = drawn_rooms(draw, book, draw.choice([1, 4, 10 ** 13]))
            least = min(sum(rooms[gate] for gate in lot) for lot in cuts(book))
            for many in (0, least, least + 1, 10 ** 14):
                plan, cut = plan_of(book, rooms, many), cut_below(book, rooms, many)
                self.assertEqual([plan is None, cut is None].count(True), 1)
                self.assertIs(plan is None, many > least)
                if plan is not None:
                    self.assertEqual((plan_fault(book, rooms, plan), sum(plan)), (None, many))
                else:
                    self.assertIs(is_cut(book, cut), True)
                    self.assertLess(room_of(book, rooms, cut), many)

    def test_a_dearest_plan_and_tolls_that_come_to_just_as_much(self):
        draw = random.Random(11)
        for book in closed_books(60, 11):
            rooms = drawn_rooms(draw, book, draw.choice([1, 4, 10 ** 13]))
            for gains in ([1] * len(book.ways()), sums_gains(draw, book, draw.choice([2, 10 ** 11]))):
                self.assertIsNone(loses(book, gains))
                plan, tolls = dearest_plan(book, rooms, gains), best_tolls(book, rooms, gains)
                self.assertIsNone(plan_fault(book, rooms, plan))
                self.assertIsNone(toll_fault(book, gains, tolls))
                self.assertEqual(gain(book, gains, plan), cost(book, rooms, tolls))
                self.assertEqual(dearest(book, rooms, gains), cost(book, rooms, tolls))

    def test_with_all_gains_1_these_are_plans_and_cuts(self):
        draw = random.Random(12)
        for book in closed_books(60, 12):
            rooms = [draw.randint(1, 5) for _ in range(book.gates())]
            gains = [1] * len(book.ways())
            self.assertEqual(dearest(book, rooms, gains), most(book, rooms))
            tolls = best_tolls(book, rooms, gains)
            self.assertIn([gate for gate, toll in enumerate(tolls) if toll > 0], least_cuts(book, rooms))
            self.assertIn(nearest(book, rooms), least_cuts(book, rooms))
            self.assertIn(farthest(book, rooms), least_cuts(book, rooms))
            self.assertEqual(gap(book, rooms), 0)

    def test_sendings_and_stretches_that_come_to_just_as_much(self):
        draw = random.Random(13)
        for book in closed_books(60, 13):
            rooms = drawn_rooms(draw, book, draw.choice([1, 4, 10 ** 13]))
            for top in (4, 10 ** 9):
                lengths = drawn_lengths(draw, book, top)
                bell = draw.randint(0, 2 * sum(lengths) + 3)
                sendings = best_sendings(book, rooms, lengths, bell)
                stretches = best_stretches(book, rooms, lengths, bell)
                self.assertIsNone(sent_fault(book, rooms, lengths, bell, sendings))
                self.assertIsNone(gets_by(book, lengths, bell, stretches))
                many = through(book, rooms, lengths, bell)
                self.assertEqual(sent(sendings), many)
                self.assertEqual(cost(book, rooms, [turns for _, turns in stretches]), many)
                self.assertLessEqual(least_bell(book, rooms, lengths, many), bell)

    def test_behind_side_by_side_and_put_in_over_time(self):
        draw = random.Random(14)
        for one, first, other, last in drawn_pairs(150, 14):
            lengths = drawn_lengths(draw, one, 3), drawn_lengths(draw, other, 3)
            bell = draw.randint(0, 9)
            self.assertEqual(through(beside(one, other), first + last, lengths[0] + lengths[1], bell),
                             through(one, first, lengths[0], bell) + through(other, last, lengths[1], bell))
            for book in (turned(one), least_ways(one)):
                self.assertEqual(through(book, first, lengths[0], bell), through(one, first, lengths[0], bell))

    def test_no_web_of_roads_is_asked(self):
        # In a web of the neighbours 0 and 1, 1 and 4, 4 and 7 there would be a way 0, 1, 4, 7: K has none.
        self.assertIsNone(lack(k_book()))
        self.assertFalse([row for row in k_book().ways() if set(row) <= {0, 1, 4, 7}])


if __name__ == "__main__":
    unittest.main()

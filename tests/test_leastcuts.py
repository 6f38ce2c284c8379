"""[5], [5.1], [5.2], [5.3], [5.4], and the interface's line of leastcuts.py."""

import random
import unittest
from itertools import combinations, permutations

from tests.drawn import books, closed_book, drawn_book
from tests.things import any_objects, cuts, deep, exactly, first_lack, k_book, least_room, lots, small_books
from waysthatcross.books import Book
from waysthatcross.crossings import lack
from waysthatcross.errors import BadCut, BadRooms, NotClosed
from waysthatcross.leastcuts import (farthest, firsts, helping, hurting, is_ahead, lasts, least_cuts, nearest)
from waysthatcross.plans import most, plan_fault, plan_of

K_ROOMS = [2, 1, 2, 2, 1, 2, 2, 2, 1]
K_LEAST = [[0, 3, 6], [1, 3, 4, 5], [2, 5, 7]]
OF_ALL = [least_cuts, nearest, farthest, helping, hurting]
OF_TWO = [firsts, lasts, is_ahead]


def plain_least_cuts(book, rooms):
    """Return the cuts of least room, by going through all lots."""
    least = least_room(book, rooms)
    return sorted(sorted(lot) for lot in cuts(book) if sum(rooms[gate] for gate in lot) == least)


def plan_in_order(book, rooms, order):
    """Return a plan with the most, each way in this order gone as often as the least room falls by as much."""
    left, plan = list(rooms), [0] * len(book.ways())
    for way in order:
        row = book.ways()[way]
        for times in range(min(left[gate] for gate in row), -1, -1):
            less = [room - times if gate in row else room for gate, room in enumerate(left)]
            if least_room(book, less) == least_room(book, left) - times:
                left, plan[way] = less, times
                break
    return plan


def plain_ends(book, plan, lot):
    """Return the first gates of a lot, and the last ones, on the ways that a plan goes."""
    heads, tails = set(), set()
    for row, many in zip(book.ways(), plan):
        on_it = [gate for gate in row if gate in lot]
        if many > 0:
            heads.add(on_it[0])
            tails.add(on_it[-1])
    return sorted(heads), sorted(tails)


def rooms_from_one(draw, book, top):
    return [draw.randint(1, top) for _ in range(book.gates())]


def drawn_cases(many, start, tops=(1, 2, 4)):
    """Return pairs of a closed book and rooms from 1 on, often with several least cuts."""
    draw = random.Random(start)
    told = books(closed_book, many, start) + books(closed_book, many, start + 1, True)
    cases = [(k_book(), K_ROOMS), (k_book(), [1] * 9)]
    cases += [(book, [1] * book.gates()) for book in small_books(2, 3) if lack(book) is None]
    return cases + [(book, rooms_from_one(draw, book, draw.choice(tops))) for book in told]


class Examples(unittest.TestCase):

    def test_k(self):
        book = k_book()
        self.assertEqual(most(book, K_ROOMS), 6)
        self.assertEqual(exactly(least_cuts(book, K_ROOMS)), exactly(K_LEAST))
        for one, other in combinations(K_LEAST, 2):
            self.assertIs(is_ahead(book, K_ROOMS, one, other), True)
            self.assertIs(is_ahead(book, K_ROOMS, other, one), False)
        self.assertEqual(exactly(nearest(book, K_ROOMS)), exactly([0, 3, 6]))
        self.assertEqual(exactly(farthest(book, K_ROOMS)), exactly([2, 5, 7]))
        self.assertEqual(exactly(helping(book, K_ROOMS)), exactly([]))
        self.assertEqual(exactly(hurting(book, K_ROOMS)), exactly([0, 1, 2, 3, 4, 5, 6, 7]))

    def test_firsts_and_lasts_of_k(self):
        book = k_book()
        self.assertEqual(firsts(book, K_ROOMS, [0, 3, 6], [2, 5, 7]), [0, 3, 6])
        self.assertEqual(lasts(book, K_ROOMS, [0, 3, 6], [2, 5, 7]), [2, 5, 7])
        self.assertEqual(firsts(book, K_ROOMS, [1, 3, 4, 5], [2, 5, 7]), [1, 3, 4, 5])

    def test_least_cuts_of_which_none_is_ahead(self):
        # Two ways side by side, two gates on each.
        book, rooms = Book(4, [[0, 1], [2, 3]]), [1] * 4
        self.assertEqual(least_cuts(book, rooms), [[0, 2], [0, 3], [1, 2], [1, 3]])
        self.assertIs(is_ahead(book, rooms, [0, 3], [1, 2]), False)
        self.assertIs(is_ahead(book, rooms, [1, 2], [0, 3]), False)
        self.assertEqual(firsts(book, rooms, [0, 3], [1, 2]), [0, 2])
        self.assertEqual(lasts(book, rooms, [0, 3], [1, 2]), [1, 3])


class LeastCuts(unittest.TestCase):

    def test_all_lots(self):
        several = 0
        for book, rooms in drawn_cases(250, 1):
            told = least_cuts(book, rooms)
            self.assertEqual(exactly(told), exactly(plain_least_cuts(book, rooms)))
            self.assertEqual(exactly(least_cuts(book, tuple(rooms))), exactly(told))
            several += len(told) > 1
        self.assertGreater(several, 100)

    def test_great_rooms(self):
        draw = random.Random(2)
        for book in books(closed_book, 150, 2):
            for rooms in ([10 ** 13] * book.gates(), rooms_from_one(draw, book, 10 ** 13),
                          [10 ** 13 - draw.randint(0, 1) for _ in range(book.gates())]):
                self.assertEqual(least_cuts(book, rooms), plain_least_cuts(book, rooms))

    def test_plans_with_the_most_go_over_one_gate_and_fill_each(self):
        for book, rooms in drawn_cases(100, 3):
            plan = plan_of(book, rooms, most(book, rooms))
            for cut in least_cuts(book, rooms):
                sums = {gate: 0 for gate in cut}
                for row, many in zip(book.ways(), plan):
                    shared = [gate for gate in row if gate in cut]
                    if many > 0:
                        self.assertEqual(len(shared), 1)
                    for gate in shared:
                        sums[gate] += many
                self.assertEqual(sums, {gate: rooms[gate] for gate in cut})

    def test_edges(self):
        self.assertEqual(exactly(least_cuts(Book(0, []), [])), exactly([[]]))
        self.assertEqual(exactly(least_cuts(Book(2, []), [3, 4])), exactly([[]]))
        self.assertEqual(least_cuts(Book(1, [[0]]), [10 ** 13]), [[0]])
        self.assertEqual(least_cuts(Book(3, [[2, 0]]), [1, 1, 1]), [[0], [2]])
        self.assertEqual(least_cuts(Book(3, [[2, 0]]), [2, 1, 1]), [[2]])
        for function in (nearest, farthest, helping, hurting):
            self.assertEqual(exactly(function(Book(0, []), [])), exactly([]))
            self.assertEqual(exactly(function(Book(2, []), [3, 4])), exactly([]))
            self.assertEqual(exactly(function(Book(1, [[0]]), [7])), exactly([0]))
        for function in (firsts, lasts):
            self.assertEqual(exactly(function(Book(2, []), [3, 4], [], ())), exactly([]))
            self.assertEqual(function(Book(1, [[0]]), [7], [0], (0,)), [0])
        self.assertIs(is_ahead(Book(2, []), [3, 4], (), []), True)


class FirstsAndLasts(unittest.TestCase):

    def test_whichever_plan_with_the_most_is_taken(self):
        draw = random.Random(4)
        seen = 0
        for book, rooms in drawn_cases(60, 4):
            told = least_cuts(book, rooms)
            pairs = [(draw.choice(told), draw.choice(told)) for _ in range(3)]
            ways = range(len(book.ways()))
            plans = [plan_in_order(book, rooms, draw.sample(ways, len(ways))) for _ in range(3)]
            seen += len(set(map(tuple, plans))) > 1
            for plan in plans:
                self.assertIsNone(plan_fault(book, rooms, plan))
                self.assertEqual(sum(plan), least_room(book, rooms))
                for one, other in pairs:
                    heads, tails = plain_ends(book, plan, {*one, *other})
                    self.assertEqual(exactly(firsts(book, rooms, one, other)), exactly(heads))
                    self.assertEqual(exactly(lasts(book, rooms, one, other)), exactly(tails))
                    self.assertIs(is_ahead(book, rooms, one, other), sorted(one) == heads)
        self.assertGreater(seen, 15)

    def test_both_are_least_cuts_and_share_out_the_gates(self):
        for book, rooms in drawn_cases(80, 5):
            told = least_cuts(book, rooms)
            for one, other in list(permutations(told, 2))[:20] + [(told[0], told[0])]:
                heads, tails = firsts(book, rooms, one, other), lasts(book, rooms, one, other)
                self.assertIn(heads, told)
                self.assertIn(tails, told)
                self.assertEqual(set(heads) | set(tails), {*one, *other})
                self.assertEqual(set(heads) & set(tails), set(one) & set(other))
                self.assertEqual(firsts(book, rooms, other, one), heads)
                self.assertEqual(lasts(book, rooms, other, one), tails)

    def test_in_any_order_of_gates_and_as_tuples(self):
        draw = random.Random(6)
        for book, rooms in drawn_cases(60, 6):
            told = least_cuts(book, rooms)
            one, other = draw.choice(told), draw.choice(told)
            for function in OF_TWO:
                expected = exactly(function(book, rooms, one, other))
                mixed = draw.sample(one, len(one)), draw.sample(other, len(other))
                self.assertEqual(exactly(function(book, rooms, *mixed)), expected)
                self.assertEqual(exactly(function(book, tuple(rooms), tuple(mixed[0]), tuple(mixed[1]))), expected)
                self.assertEqual(exactly(function(other=mixed[1], one=mixed[0], rooms=rooms, book=book)), expected)

    def test_nearest_and_farthest_two_by_two_in_any_order(self):
        draw = random.Random(7)
        for book, rooms in drawn_cases(120, 7):
            told = least_cuts(book, rooms)
            plan = plan_in_order(book, rooms, range(len(book.ways())))
            for _ in range(3):
                first = last = draw.choice(told)
                for cut in draw.sample(told, len(told)):
                    first = plain_ends(book, plan, {*first, *cut})[0]
                    last = plain_ends(book, plan, {*last, *cut})[1]
                self.assertEqual(exactly(nearest(book, rooms)), exactly(first))
                self.assertEqual(exactly(farthest(book, rooms)), exactly(last))
            self.assertIn(first, told)
            self.assertIn(last, told)
            for cut in told:
                self.assertIs(is_ahead(book, rooms, first, cut), True)
                self.assertIs(is_ahead(book, rooms, cut, last), True)

    def test_is_ahead_is_an_order(self):
        chains = 0
        for book, rooms in drawn_cases(80, 8):
            told = least_cuts(book, rooms)[:6]
            for one in told:
                self.assertIs(is_ahead(book, rooms, one, one), True)
            for one, other in combinations(told, 2):
                both = [is_ahead(book, rooms, one, other), is_ahead(book, rooms, other, one)]
                self.assertIn(both, [[True, False], [False, True], [False, False]])
            for one, between, other in permutations(told, 3):
                if is_ahead(book, rooms, one, between) and is_ahead(book, rooms, between, other):
                    chains += 1
                    self.assertIs(is_ahead(book, rooms, one, other), True)
        self.assertGreater(chains, 50)


class HelpingAndHurting(unittest.TestCase):

    def test_one_room_more_and_one_room_less(self):
        for book, rooms in drawn_cases(150, 9):
            least = least_room(book, rooms)
            more, fewer = [], []
            for gate in range(book.gates()):
                rooms[gate] += 1
                more += [gate] if least_room(book, rooms) == least + 1 else []
                rooms[gate] -= 2
                fewer += [gate] if least_room(book, rooms) == least - 1 else []
                rooms[gate] += 1
            self.assertEqual(exactly(helping(book, rooms)), exactly(more))
            self.assertEqual(exactly(hurting(book, rooms)), exactly(fewer))
            told = plain_least_cuts(book, rooms)
            self.assertEqual(more, [gate for gate in range(book.gates()) if all(gate in cut for cut in told)])
            self.assertEqual(fewer, sorted({gate for cut in told for gate in cut}))

    def test_one_gate_that_helps(self):
        book = Book(3, [[0, 2], [1, 2]])
        self.assertEqual(helping(book, [5, 5, 3]), [2])
        self.assertEqual(hurting(book, [5, 5, 3]), [2])
        self.assertEqual(helping(book, [2, 1, 3]), [])
        self.assertEqual(hurting(book, [2, 1, 3]), [0, 1, 2])
        self.assertEqual(helping(book, [1, 1, 3]), [0, 1])


class Errors(unittest.TestCase):

    def test_rooms_from_1_on(self):
        wrong = [[0] * 9, [0] + [1] * 8, [1] * 8 + [0], (1,) * 4 + (0,) + (1,) * 4, [1] * 8, [1] * 10, [],
                 [1] * 8 + [-1], [True] * 9, [1] * 8 + [True], [1] * 8 + [None], "1" * 9, None, 1, {},
                 {gate: 1 for gate in range(9)}, [[1]] * 9, [[1] * 9], k_book(), len, deep(list)]
        for rooms in wrong:
            for function in OF_ALL + OF_TWO:
                passed = [[0, 3, 6]] * 2 if function in OF_TWO else []
                with self.assertRaises(BadRooms) as caught:
                    function(k_book(), rooms, *passed)
                self.assertIs(caught.exception.rooms, rooms)

    def test_what_is_no_least_cut(self):
        # [0, 1, 2, 6, 7] is a cut of more room, [0, 3, 6, 8] one with a gate too many.
        wrong = [[0, 1, 2, 6, 7], [0, 3, 6, 8], [0, 3], [], (), [8], list(range(9)), [0, 3, 6, 6], [0, 3, 6, 9],
                 [0, 3, -3], [False, 3, 6], "036", None, 0, True, {}, {0: 0, 3: 3, 6: 6}, [[0, 3, 6]], [0, 3, "6"],
                 [0, 3, [6]], [0, 3, 6.5], k_book(), len, deep(list), deep(tuple), deep(dict)]
        right = (6, 0, 3)
        for cut in wrong + [thing for thing in any_objects() if thing != [0, 3, 6]]:
            for function in OF_TWO:
                for one, other in ((cut, right), (right, cut), (cut, cut), (cut, [1]), (cut, None)):
                    with self.assertRaises(BadCut) as caught:
                        function(k_book(), K_ROOMS, one, other)
                    self.assertIs(caught.exception.cut, cut)
                with self.assertRaises(BadCut) as caught:
                    function(other=cut, one=right, rooms=K_ROOMS, book=k_book())
                self.assertIs(caught.exception.cut, cut)

    def test_all_lots(self):
        for book, rooms in drawn_cases(15, 10)[:40]:
            told = plain_least_cuts(book, rooms)
            for lot in lots(book):
                for function in OF_TWO:
                    if lot in told:
                        function(book, rooms, lot, told[0])
                    else:
                        with self.assertRaises(BadCut):
                            function(book, rooms, told[0], lot)

    def test_a_cut_of_other_rooms_is_judged_anew(self):
        book, rooms, cut = k_book(), list(K_ROOMS), [0, 3, 6]
        self.assertEqual(firsts(book, rooms, cut, cut), cut)
        rooms[0] = 3
        with self.assertRaises(BadCut):
            firsts(book, rooms, cut, cut)
        self.assertEqual(nearest(book, rooms), [1, 3, 4, 5])
        rooms[0] = 2
        self.assertIs(is_ahead(book, rooms, cut, [2, 5, 7]), True)
        cut.append(8)
        with self.assertRaises(BadCut):
            is_ahead(book, rooms, cut, [2, 5, 7])

    def test_not_closed_ahead_of_bad_cuts_and_behind_bad_rooms(self):
        seen = 0
        for book in books(drawn_book, 150, 11):
            triple = first_lack(book.ways())
            rooms = [1] * book.gates()
            if triple is not None:
                seen += 1
                for function in OF_ALL + OF_TWO:
                    for passed in ([[], []], [None, 0], [rooms, [0]]) if function in OF_TWO else ([],):
                        with self.assertRaises(NotClosed) as caught:
                            function(book, rooms, *passed)
                        error = caught.exception
                        self.assertEqual(exactly((error.one, error.gate, error.other)), exactly(triple))
                        with self.assertRaises(BadRooms):
                            function(book, [0] * book.gates(), *passed)
        self.assertGreater(seen, 40)


if __name__ == "__main__":
    unittest.main()

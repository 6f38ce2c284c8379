"""[4.1], [4.3], [4.4], [4.5], [4.6], [1.2] where it speaks of plans and cuts, and the interface's line of plans.py."""

import random
import unittest
from fractions import Fraction

from tests.drawn import books, closed_book, drawn_book, drawn_rooms
from tests.things import any_objects, cuts, deep, exactly, greatest_sum, is_closed, k_book, least_room, small_books
from waysthatcross.books import Book
from waysthatcross.cuts import cut_below, is_cut, room_of
from waysthatcross.errors import BadBook, BadGate, BadMany, BadPlan, BadRooms, NotClosed
from waysthatcross.plans import by_room, loads, most, plan_fault, plan_of

OPEN = Book(3, [[0, 1], [1, 2], [2, 0]])
# Two ways over gate 1, and the two ways from the begin of the one to the end of the other.
LEAPS = Book(5, [[0, 1, 2], [0, 4], [3, 1, 4], [3, 2]])


def plain_loads(book, plan):
    """Return how many go through each gate, one way after the other."""
    return [sum(many for row, many in zip(book.ways(), plan) if gate in row) for gate in range(book.gates())]


def plain_fault(book, rooms, thing):
    """Return what [4.1] says of any object."""
    if type(thing) not in (list, tuple) or len(thing) != len(book.ways()):
        return ("form",)
    if [part for part in thing if type(part) is not int or part < 0]:
        return ("form",)
    full = [gate for gate, many in enumerate(plain_loads(book, thing)) if many > rooms[gate]]
    return ("gate", full[0]) if full else None


def plain_by_room(book, rooms, gate):
    """Return what [4.4] says, by going through all lots."""
    without = [sum(rooms[part] for part in lot) for lot in cuts(book) if gate not in lot]
    shut = [0 if part == gate else room for part, room in enumerate(rooms)]
    return (least_room(book, shut), min(without, default=None))


def plan_without_rounding(book, rooms):
    """Return a plan as [4.5] finds it, but for the rounding down: its numbers need not be whole."""
    left = [Fraction(room) for room in rooms]
    told = [sorted(lot) for lot in cuts(book)]
    plan = []
    for row in book.ways():
        least = min(sum(left[gate] for gate in lot) for lot in told)
        bounds = [left[gate] for gate in row]
        for lot in told:
            shared = len(set(row) & set(lot))
            if shared > 1:
                bounds.append((sum(left[gate] for gate in lot) - least) / (shared - 1))
        plan.append(min(bounds))
        for gate in row:
            left[gate] -= plan[-1]
    return plan


def plan_way_by_way(book, rooms):
    """Return the plan that [4.5] finds, the ways in their order."""
    left, plan = list(rooms), []
    told = cuts(book)
    for row in book.ways():
        sums = [sum(left[gate] for gate in lot) for lot in told]
        bounds = [(room - min(sums)) // (len(lot & set(row)) - 1) for lot, room in zip(told, sums)
                  if len(lot & set(row)) > 1]
        plan.append(min([left[gate] for gate in row] + bounds))
        for gate in row:
            left[gate] -= plan[-1]
    return plan


def small_closed_books(many, start):
    """Return so many closed books of few ways, and all of two gates."""
    told = books(closed_book, many, start, True)
    return [book for book in told if len(book.ways()) < 8] + [book for book in small_books(2, 4) if is_closed(book)]


class Loads(unittest.TestCase):

    def test_k(self):
        self.assertEqual(loads(k_book(), [1, 0, 0, 0, 0, 1, 1]), [1, 1, 1, 1, 0, 1, 1, 1, 0])
        self.assertEqual(loads(k_book(), (1, 2, 4, 8, 16, 32, 64)), [9, 3, 17, 50, 6, 74, 68, 36, 0])
        self.assertEqual(loads(k_book(), [0] * 7), [0] * 9)

    def test_drawn_books(self):
        draw = random.Random(1)
        for book in books(drawn_book, 300, 1) + [OPEN]:
            for top in (1, 5, 10 ** 13):
                plan = [draw.randint(0, top) for _ in book.ways()]
                self.assertEqual(exactly(loads(book, plan)), exactly(plain_loads(book, plan)))
                self.assertEqual(exactly(loads(book, tuple(plan))), exactly(plain_loads(book, plan)))

    def test_edges(self):
        self.assertEqual(loads(Book(0, []), []), [])
        self.assertEqual(loads(Book(3, []), ()), [0, 0, 0])
        self.assertEqual(loads(Book(1, [[0]]), [10 ** 13]), [10 ** 13])
        self.assertEqual(loads(Book(2, [[0], [0, 1]]), [10 ** 13, 10 ** 13]), [2 * 10 ** 13, 10 ** 13])

    def test_bad_plan(self):
        plans = [[0] * 6, [0] * 8, (), [0] * 6 + [-1], [-1] + [0] * 6, [True] * 7, [0] * 6 + [None], ["0"] * 7,
                 "0000000", None, 0, True, {}, {way: 0 for way in range(7)}, [[0]] * 7, [[0] * 7], k_book(), len,
                 [0] * 6 + [k_book()], [0] * 6 + [deep(list)], deep(list), deep(tuple)]
        for plan in plans:
            for call in (lambda: loads(k_book(), plan), lambda: loads(plan=plan, book=k_book())):
                with self.assertRaises(BadPlan) as caught:
                    call()
                self.assertIs(caught.exception.plan, plan)
        with self.assertRaises(BadPlan):
            loads(Book(3, []), [0, 0, 0])


class PlanFault(unittest.TestCase):

    def assert_fault(self, fault, book, rooms, thing):
        self.assertEqual(exactly(plan_fault(book, rooms, thing)), exactly(fault))
        self.assertEqual(exactly(plan_fault(thing=thing, rooms=tuple(rooms), book=book)), exactly(fault))

    def test_k(self):
        rooms = [1] * 9
        self.assert_fault(None, k_book(), rooms, [1, 0, 0, 0, 0, 1, 1])
        self.assert_fault(None, k_book(), rooms, (0,) * 7)
        self.assert_fault(("gate", 0), k_book(), rooms, [1, 0, 0, 1, 0, 0, 0])
        self.assert_fault(("gate", 1), k_book(), rooms, [1, 1, 0, 0, 0, 0, 0])
        self.assert_fault(("gate", 7), k_book(), rooms, [0, 0, 1, 0, 0, 1, 0])
        self.assert_fault(("form",), k_book(), rooms, [1, 0, 0, 0, 0, 1])

    def test_the_first_gate_that_is_too_full(self):
        self.assert_fault(("gate", 0), Book(3, [[2, 1], [1, 0]]), [0, 0, 0], [1, 1])
        self.assert_fault(("gate", 1), Book(3, [[2, 1], [1, 0]]), [1, 0, 0], [1, 1])
        self.assert_fault(("gate", 1), Book(3, [[2, 1], [1, 0]]), [1, 1, 0], [1, 1])
        self.assert_fault(("gate", 2), Book(3, [[2, 1], [1, 0]]), [1, 2, 0], [1, 1])
        self.assert_fault(None, Book(3, [[2, 1], [1, 0]]), [1, 2, 1], [1, 1])
        self.assert_fault(("gate", 8), Book(9, [[8]]), [0] * 9, [1])

    def test_any_object(self):
        for book in (k_book(), OPEN, Book(1, [[0]]), Book(2, [[0], [1]]), Book(3, []), Book(0, [])):
            for top in (0, 1):
                rooms = [top] * book.gates()
                for thing in any_objects():
                    self.assert_fault(plain_fault(book, rooms, thing), book, rooms, thing)

    def test_what_is_no_plan(self):
        book = Book(2, [[0], [1]])
        things = [[0], [0, 0, 0], (0,), (0, 0, 0), [], [0, -1], [-1, 0], [0, True], [False, 0], [0, "0"], ["0", 0],
                  "00", [0, None], [0, [0]], [(0,), 0], [0, deep(list)], [deep(tuple), 0], [[0, 0]], ([0, 0],),
                  {0: 0, 1: 0}, {}, None, 0, 2, True, False, -1, 10 ** 30, "", len, [len, 0], book,
                  [book, 0], [{}, 0], deep(dict)]
        for thing in things:
            self.assert_fault(("form",), book, [5, 5], thing)
            self.assert_fault(("form",), book, [0, 0], thing)

    def test_form_ahead_of_gate(self):
        book = Book(2, [[0], [0, 1], [1]])
        for thing in ([9, 9], [9, 9, 9, 9], [9, 9, True], [9, 9, -1], [9, 9, None], (9, 9, "0"), [9, 9, [9]]):
            self.assert_fault(("form",), book, [0, 0], thing)
        self.assert_fault(("gate", 0), book, [0, 0], [9, 9, 9])

    def test_drawn_plans(self):
        draw = random.Random(2)
        for book in books(drawn_book, 300, 2):
            for top in (2, 10 ** 13):
                rooms = drawn_rooms(draw, book, top)
                for scale in (1, 4, 20):
                    plan = [draw.randint(0, top // scale) for _ in book.ways()]
                    self.assert_fault(plain_fault(book, rooms, plan), book, rooms, plan)
                    self.assert_fault(None, book, plain_loads(book, plan), plan)

    def test_edges(self):
        for empty in ([], ()):
            self.assert_fault(None, Book(0, []), [], empty)
            self.assert_fault(None, Book(2, []), [0, 0], empty)
        self.assert_fault(None, Book(1, [[0]]), [10 ** 13], [10 ** 13])
        self.assert_fault(("gate", 0), Book(1, [[0]]), [10 ** 13], [10 ** 13 + 1])
        self.assert_fault(None, OPEN, [1, 1, 0], [1, 0, 0])

    def test_bad_rooms_whatever_the_thing(self):
        for rooms in ([1] * 8, [1] * 10, [1] * 8 + [-1], [True] * 9, None, "111111111", deep(list)):
            for thing in ([0] * 7, [0], None, rooms):
                with self.assertRaises(BadRooms) as caught:
                    plan_fault(k_book(), rooms, thing)
                self.assertIs(caught.exception.rooms, rooms)


class Most(unittest.TestCase):

    def test_k(self):
        self.assertEqual(most(k_book(), [1] * 9), 3)
        self.assertEqual(most(k_book(), [2, 1, 2, 2, 1, 2, 2, 2, 1]), 6)

    def test_all_plans_and_all_lots(self):
        draw = random.Random(3)
        for book in small_closed_books(250, 3):
            for top in (1, 3):
                rooms = drawn_rooms(draw, book, top)
                told = most(book, rooms)
                self.assertIs(type(told), int)
                self.assertEqual(told, greatest_sum(book.ways(), rooms))
                self.assertEqual(told, least_room(book, rooms))
                self.assertEqual(most(book, tuple(rooms)), told)

    def test_great_rooms(self):
        draw = random.Random(4)
        for book in books(closed_book, 300, 4) + [k_book(), LEAPS]:
            rooms = drawn_rooms(draw, book, 10 ** 13)
            self.assertEqual(most(book, rooms), least_room(book, rooms))

    def test_edges(self):
        for gates in range(3):
            self.assertEqual(exactly(most(Book(gates, []), [7] * gates)), exactly(0))
        self.assertEqual(most(Book(1, [[0]]), [0]), 0)
        self.assertEqual(most(Book(1, [[0]]), [10 ** 13]), 10 ** 13)
        self.assertEqual(most(Book(9, [[gate] for gate in range(9)]), [10 ** 13] * 9), 9 * 10 ** 13)
        self.assertEqual(most(Book(3, [[0, 1]]), [4, 3, 0]), 3)
        # Of the two ways the one lies within the other.
        self.assertEqual(most(Book(3, [[2, 1, 0], [0]]), [4, 3, 2]), 4)

    def test_nine_gates_thirty_ways(self):
        draw = random.Random(5)
        book = Book(9, [[gate] for gate in range(9)] + [draw.sample(range(9), 9) for _ in range(21)])
        rooms = [10 ** 13 - gate for gate in range(9)]
        self.assertEqual(most(book, rooms), sum(rooms))
        self.assertIsNone(plan_of(book, rooms, sum(rooms) + 1))
        plan = plan_of(book, rooms, sum(rooms))
        self.assertIsNone(plan_fault(book, rooms, plan))
        self.assertEqual(sum(plan), sum(rooms))

    def test_not_closed(self):
        for book in books(drawn_book, 200, 6):
            if not is_closed(book):
                with self.assertRaises(NotClosed):
                    most(book, [1] * book.gates())


class PlanOf(unittest.TestCase):

    def assert_plan(self, book, rooms, many, greatest):
        """Assert that a plan that fits with just so many is told, or none if so many are above the greatest sum."""
        told = plan_of(book, rooms, many)
        if many > greatest:
            self.assertIsNone(told)
        else:
            self.assertEqual(type(told), list)
            self.assertIsNone(plain_fault(book, rooms, told))
            self.assertEqual(sum(told), many)
        below = cut_below(book, rooms, many)
        self.assertNotEqual(told is None, below is None)
        if below is not None:
            self.assertIs(is_cut(book, below), True)
            self.assertLess(room_of(book, rooms, below), many)

    def test_k(self):
        self.assertEqual(plan_fault(k_book(), [1] * 9, [1, 0, 0, 0, 0, 1, 1]), None)
        for many in range(7):
            self.assert_plan(k_book(), [1] * 9, many, 3)

    def test_all_plans_and_all_lots(self):
        draw = random.Random(7)
        for book in small_closed_books(250, 7):
            rooms = drawn_rooms(draw, book, 3)
            greatest = greatest_sum(book.ways(), rooms)
            for many in range(greatest + 3):
                self.assert_plan(book, rooms, many, greatest)
                self.assertEqual(plan_of(book, tuple(rooms), many), plan_of(book, rooms, many))

    def test_great_rooms(self):
        draw = random.Random(8)
        for book in books(closed_book, 250, 8) + [k_book(), LEAPS]:
            for rooms in (drawn_rooms(draw, book, 10 ** 13), [10 ** 13] * book.gates()):
                least = least_room(book, rooms)
                around = [least - 1, least, least + 1, least - 2, least // 2, 0, 1, 10 ** 14]
                for many in around:
                    if many >= 0:
                        self.assert_plan(book, rooms, many, least)

    def test_whole_where_halves_would_do(self):
        self.assertEqual(plan_without_rounding(LEAPS, [1] * 5), [Fraction(1, 2)] * 4)
        odd = 10 ** 13 - 1
        for rooms in ([1] * 5, [3] * 5, [odd] * 5, [odd, odd, odd - 1, odd, odd - 1]):
            self.assert_plan(LEAPS, rooms, most(LEAPS, rooms), least_room(LEAPS, rooms))

    def test_drawn_books_where_halves_would_do(self):
        draw = random.Random(9)
        found = 0
        for book in books(closed_book, 800, 9, True):
            rooms = [draw.randint(1, 3) for _ in range(book.gates())]
            plan = plan_without_rounding(book, rooms)
            if any(many.denominator > 1 for many in plan):
                found += 1
                self.assertEqual(sum(plan), least_room(book, rooms))
                self.assert_plan(book, rooms, least_room(book, rooms), least_room(book, rooms))
        self.assertGreater(found, 5)

    def test_behind_a_plan_with_the_most_none_can_go(self):
        draw = random.Random(13)
        for book in books(closed_book, 150, 13) + [k_book(), LEAPS]:
            rooms = drawn_rooms(draw, book, 10 ** 13)
            through = loads(book, plan_of(book, rooms, most(book, rooms)))
            left = [room - many for room, many in zip(rooms, through)]
            self.assertEqual(most(book, left), 0)

    def test_the_same_one_each_time_as_it_is_found_way_by_way(self):
        draw = random.Random(14)
        grid = Book(9, [[one, gate, other] for one in (0, 1, 2) for gate in (3, 4, 5) for other in (6, 7, 8)])
        for book in books(closed_book, 200, 14) + [k_book(), LEAPS, grid]:
            for top in (1, 5, 10 ** 13):
                rooms = drawn_rooms(draw, book, top)
                plan = plan_way_by_way(book, rooms)
                self.assertEqual(plan_of(book, rooms, sum(plan)), plan)
                many = draw.randint(0, sum(plan))
                for times, fewer in zip(plan, plan_of(book, rooms, many)):
                    self.assertEqual(fewer, min(times, many))
                    many -= fewer

    def test_none_go_where_there_is_no_way(self):
        for gates in range(3):
            self.assertEqual(exactly(plan_of(Book(gates, []), [7] * gates, 0)), exactly([]))
            self.assertIsNone(plan_of(Book(gates, []), [7] * gates, 1))

    def test_edges(self):
        self.assertEqual(plan_of(Book(1, [[0]]), [0], 0), [0])
        self.assertIsNone(plan_of(Book(1, [[0]]), [0], 1))
        self.assertEqual(plan_of(Book(1, [[0]]), [10 ** 13], 10 ** 13), [10 ** 13])
        self.assertIsNone(plan_of(Book(1, [[0]]), [10 ** 13], 10 ** 13 + 1))
        self.assertEqual(plan_of(Book(2, [[0], [1]]), [3, 4], 7), [3, 4])
        self.assertEqual(plan_of(k_book(), [5] * 9, 0), [0] * 7)

    def test_bad_many(self):
        for many in [thing for thing in any_objects() if type(thing) is not int or thing < 0] + [-5, -10 ** 14]:
            for call in (lambda: plan_of(k_book(), [1] * 9, many),
                         lambda: plan_of(many=many, rooms=[1] * 9, book=k_book())):
                with self.assertRaises(BadMany) as caught:
                    call()
                self.assertIs(caught.exception.many, many)


class ByRoom(unittest.TestCase):

    def test_k(self):
        self.assertEqual(exactly(by_room(k_book(), [1] * 9, 0)), exactly((2, 3)))
        self.assertEqual(exactly(by_room(k_book(), [9] + [1] * 8, 0)), exactly((2, 3)))
        self.assertEqual(exactly(by_room(k_book(), [1] * 9, 8)), exactly((3, 3)))

    def test_none_for_top(self):
        self.assertEqual(exactly(by_room(Book(1, [[0]]), [5], 0)), exactly((0, None)))
        self.assertEqual(by_room(Book(2, [[0, 1], [1]]), [3, 4], 1), (0, None))
        self.assertEqual(by_room(Book(2, [[0, 1], [1]]), [3, 4], 0), (4, 4))
        self.assertEqual(by_room(Book(2, [[0], [1]]), [3, 4], 0), (4, None))

    def test_without_ways(self):
        self.assertEqual(exactly(by_room(Book(2, []), [3, 4], 1)), exactly((0, 0)))

    def test_all_lots_and_all_rooms_of_the_gate(self):
        draw = random.Random(10)
        for book in small_closed_books(200, 10) + books(closed_book, 60, 11) + [k_book()]:
            rooms = drawn_rooms(draw, book, 4)
            for gate in range(book.gates()):
                told = by_room(book, rooms, gate)
                self.assertEqual(exactly(told), exactly(plain_by_room(book, rooms, gate)))
                self.assertEqual(exactly(by_room(book, tuple(rooms), gate)), exactly(told))
                self.assert_holds(book, rooms, gate, told, range(8))

    def test_great_rooms(self):
        draw = random.Random(12)
        for book in books(closed_book, 80, 12):
            rooms = drawn_rooms(draw, book, 10 ** 13)
            for gate in range(book.gates()):
                base, top = by_room(book, rooms, gate)
                self.assertEqual((base, top), plain_by_room(book, rooms, gate))
                between = 10 ** 13 if top is None else top - base
                rests = {0, 1, max(0, between - 1), between, between + 1, 10 ** 13}
                self.assert_holds(book, rooms, gate, (base, top), rests)

    def assert_holds(self, book, rooms, gate, told, rests):
        base, top = told
        for room in rests:
            other = [room if part == gate else rest for part, rest in enumerate(rooms)]
            self.assertEqual(most(book, other), base + room if top is None else min(base + room, top))
            self.assertEqual(by_room(book, other, gate), told)

    def test_bad_gate(self):
        for gate in [thing for thing in any_objects() if type(thing) is not int or not 0 <= thing < 9] + [9, -9, "8"]:
            for call in (lambda: by_room(k_book(), [1] * 9, gate),
                         lambda: by_room(gate=gate, rooms=[1] * 9, book=k_book())):
                with self.assertRaises(BadGate) as caught:
                    call()
                self.assertIs(caught.exception.gate, gate)
        with self.assertRaises(BadGate):
            by_room(Book(0, []), [], 0)


class BadArguments(unittest.TestCase):

    def test_bad_rooms(self):
        told = [[1] * 8, [1] * 10, (), [1] * 8 + [-1], [-1] + [1] * 8, [True] * 9, [1] * 8 + [None], ["1"] * 9, "1" * 9,
                None, 1, True, {}, {gate: 1 for gate in range(9)}, [[1]] * 9, [[1] * 9], k_book(), len, deep(list)]
        calls = [most, lambda book, rooms: plan_of(book, rooms, 1), lambda book, rooms: by_room(book, rooms, 1),
                 lambda book, rooms: cut_below(book, rooms, 1), lambda book, rooms: plan_fault(book, rooms, [])]
        for rooms in told:
            for call in calls:
                with self.assertRaises(BadRooms) as caught:
                    call(k_book(), rooms)
                self.assertIs(caught.exception.rooms, rooms)

    def test_bad_book(self):
        for thing in [thing for thing in any_objects() if not isinstance(thing, Book)]:
            with self.assertRaises(BadBook) as caught:
                loads(thing, [])
            self.assertIs(caught.exception.thing, thing)


if __name__ == "__main__":
    unittest.main()

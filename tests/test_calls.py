"""[2.1], [2.2], and the interface, for all functions of crossings.py, cuts.py, plans.py and gains.py at once."""

import copy
import inspect
import random
import unittest
from itertools import product

from tests.drawn import books, closed_book, drawn_rooms
from tests.things import K_WAYS, any_objects, as_tuples, deep, exactly, first_lack, k_book
from waysthatcross import crossings, cuts, errors, gains, plans
from waysthatcross.books import Book
from waysthatcross.errors import CrossError, NotClosed

FILES = {
    crossings: {
        "lack": ["book"],
        "crossing": ["book", "one", "gate", "other"],
        "within": ["book", "lot"],
        "along": ["book", "one", "gate", "other"],
    },
    cuts: {
        "unmet": ["book", "lot"],
        "is_cut": ["book", "thing"],
        "small_cuts": ["book"],
        "room_of": ["book", "rooms", "lot"],
        "cut_below": ["book", "rooms", "many"],
    },
    plans: {
        "loads": ["book", "plan"],
        "plan_fault": ["book", "rooms", "thing"],
        "most": ["book", "rooms"],
        "plan_of": ["book", "rooms", "many"],
        "by_room": ["book", "rooms", "gate"],
    },
    gains: {
        "loses": ["book", "gains"],
        "gain": ["book", "gains", "plan"],
    },
}
FUNCTIONS = {name: (getattr(file, name), parameters)
             for file, functions in FILES.items() for name, parameters in functions.items()}
ASK_CLOSED = ("cut_below", "most", "plan_of", "by_room", "loses")
OPEN_WAYS = [[0, 1], [1, 2], [2, 0], [3]]

# The errors of the parameters, in the order in which they are due; thing may be any object.
DUE = [("book", "BadBook", "thing"), ("rooms", "BadRooms", "rooms"), ("gains", "BadGains", "gains"),
       ("one", "BadWay", "way"), ("other", "BadWay", "way"), ("lot", "BadLot", "lot"), ("plan", "BadPlan", "plan"),
       ("many", "BadMany", "many"), ("gate", "BadGate", "gate")]

# What is wrong for each of them, whatever the book is.
WRONG = {
    "book": [None, 0, [], (9, K_WAYS), [9, K_WAYS], {}, "book", len, K_WAYS, [k_book()], deep(list)],
    "rooms": [None, [1], [1] * 10, [1] * 8 + [-1], [True] * 9, "111111111", {}, deep(tuple), len],
    "gains": [None, [1] * 20, [True] * 7, [None], ("1",) * 7, {0: 1}, deep(list), len, 7],
    "one": [None, 99, -1, True, "0", [0], len, deep(list)],
    "other": [None, 98, -2, False, "1", (1,), len, deep(tuple)],
    "lot": [None, [0, 0], [-1], [99], [True], "01", {}, deep(list), 0, len],
    "plan": [None, [1] * 20, [-1] * 7, [True] * 7, "1111111", {}, deep(dict), len],
    "many": [None, -1, True, False, "1", [1], {}, deep(list), len],
    "gate": [None, 99, -1, True, False, "1", [1], deep(tuple), len],
}


def k_arguments():
    """Return right arguments for K, by the names of parameters."""
    return {"book": k_book(), "one": 0, "gate": 1, "other": 1, "lot": [6, 3, 0], "thing": [1, 0, 0, 0, 0, 1, 1],
            "rooms": [2, 1, 2, 2, 1, 2, 2, 2, 1], "many": 4, "plan": [3, 1, 4, 1, 5, 9, 2],
            "gains": [2, -1, 1, 4, 4, 4, 4]}


def open_arguments():
    """Return right arguments for a book that is not closed."""
    return {"book": Book(4, OPEN_WAYS), "one": 0, "gate": 1, "other": 1, "lot": [1, 0], "thing": [2, 1, 3],
            "rooms": [1, 2, 3, 4], "many": 2, "plan": [1, 0, 2, 3], "gains": [1, -1, 0, 5]}


def drawn_arguments(draw, book):
    """Return right arguments for a closed book, but for a crossing."""
    lot = draw.sample(range(book.gates()), draw.randint(0, book.gates()))
    plan = [draw.randint(0, 5) for _ in book.ways()]
    return {"book": book, "lot": lot, "thing": draw.choice([lot, plan]), "rooms": drawn_rooms(draw, book, 5),
            "many": draw.randint(0, 4), "plan": plan, "gains": [draw.randint(-2, 4) for _ in book.ways()],
            "gate": draw.randrange(book.gates())}


def told_by(name, arguments):
    """Return what the function tells of those of the arguments that it takes."""
    function, parameters = FUNCTIONS[name]
    return function(*[arguments[parameter] for parameter in parameters])


def without_crossings():
    return [name for name in FUNCTIONS if name not in ("crossing", "along")]


def spoil(thing):
    """Change a told thing and all lists in it."""
    for part in thing if type(thing) in (list, tuple) else []:
        spoil(part)
    if type(thing) is list:
        thing.reverse()
        thing.append("spoiled")


def has_list(thing):
    return type(thing) is list or (type(thing) is tuple and any(has_list(part) for part in thing))


class Interface(unittest.TestCase):

    def test_names_files_and_parameters(self):
        for file, functions in FILES.items():
            for name, parameters in functions.items():
                function = getattr(file, name)
                self.assertEqual(function.__module__, file.__name__)
                self.assertEqual(list(inspect.signature(function).parameters), parameters)

    def test_by_name_in_any_order(self):
        for arguments in (k_arguments(), open_arguments()):
            for name, (function, parameters) in FUNCTIONS.items():
                if arguments["book"] == k_book() or name not in ASK_CLOSED:
                    expected = exactly(told_by(name, arguments))
                    named = {parameter: arguments[parameter] for parameter in parameters}
                    self.assertEqual(exactly(function(**named)), expected)
                    self.assertEqual(exactly(function(**dict(list(named.items())[::-1]))), expected)
                    first, *rest = parameters
                    self.assertEqual(exactly(function(named[first], **{key: named[key] for key in rest})), expected)


class ListsAndTuples(unittest.TestCase):

    def assert_same(self, name, arguments):
        expected = exactly(told_by(name, arguments))
        book = arguments["book"]
        tuples = {key: as_tuples(thing) for key, thing in arguments.items()}
        self.assertEqual(exactly(told_by(name, tuples)), expected)
        tuples["book"] = Book(book.gates(), as_tuples(book.ways()))
        self.assertEqual(exactly(told_by(name, tuples)), expected)

    def test_they_mean_the_same(self):
        draw = random.Random(1)
        for name in FUNCTIONS:
            self.assert_same(name, k_arguments())
        for book in books(closed_book, 150, 1):
            for name in without_crossings():
                self.assert_same(name, drawn_arguments(draw, book))

    def test_the_order_of_a_lot_means_nothing(self):
        draw = random.Random(2)
        for book in [k_book()] + books(closed_book, 150, 2):
            arguments = drawn_arguments(draw, book)
            for name in ("within", "unmet", "is_cut", "room_of"):
                arguments["thing"] = arguments["lot"]
                expected = told_by(name, arguments)
                arguments["thing"] = arguments["lot"] = draw.sample(arguments["lot"], len(arguments["lot"]))
                self.assertEqual(exactly(told_by(name, arguments)), exactly(expected))


class Lists(unittest.TestCase):

    def test_told_lists_belong_to_the_caller(self):
        seen = []
        for name in FUNCTIONS:
            arguments = k_arguments()
            first, second = told_by(name, arguments), told_by(name, arguments)
            expected = exactly(second)
            self.assertEqual(exactly(first), expected)
            if has_list(first):
                seen.append(name)
                self.assertIsNot(first, second)
            spoil(first)
            self.assertEqual(exactly(second), expected)
            self.assertEqual(exactly(told_by(name, arguments)), expected)
            self.assertEqual(exactly(told_by(name, k_arguments())), expected)
        self.assertEqual(seen, ["crossing", "within", "along", "small_cuts", "loads", "plan_of"])

    def test_a_told_cut_belongs_to_the_caller(self):
        arguments = {**k_arguments(), "many": 10 ** 14}
        expected = told_by("cut_below", arguments)
        spoiled = told_by("cut_below", arguments)
        spoil(spoiled)
        self.assertNotEqual(spoiled, expected)
        self.assertEqual(told_by("cut_below", arguments), expected)
        empty = {**arguments, "book": Book(9, [])}
        spoil(told_by("cut_below", empty))
        spoil(told_by("small_cuts", empty))
        self.assertEqual(told_by("cut_below", empty), [])
        self.assertEqual(told_by("small_cuts", empty), [[]])

    def test_no_told_list_is_one_that_was_passed(self):
        for book in (k_book(), Book(9, [])):
            arguments = {**k_arguments(), "book": book, "plan": [0] * len(book.ways()), "many": 0, "lot": []}
            for name in ("within", "loads", "plan_of"):
                told = told_by(name, arguments)
                self.assertFalse([key for key, thing in arguments.items() if thing is told])

    def test_no_argument_is_changed(self):
        draw = random.Random(3)
        told = [(name, k_arguments()) for name in FUNCTIONS]
        told += [(name, drawn_arguments(draw, book)) for book in books(closed_book, 100, 3)
                 for name in without_crossings()]
        for name, arguments in told:
            book = arguments.pop("book")
            ways = book.ways()
            kept = copy.deepcopy(arguments)
            told_by(name, {**arguments, "book": book})
            self.assertEqual(exactly([*arguments.values()]), exactly([*kept.values()]))
            self.assertEqual(book.ways(), ways)

    def test_what_raises_an_error_changes_nothing(self):
        for name in FUNCTIONS:
            arguments = open_arguments()
            kept = copy.deepcopy({key: arguments[key] for key in arguments if key != "book"})
            for wrong in ({}, {"rooms": [1, [2]]}, {"lot": [2, 2, 0]}, {"plan": [1, [0]]}, {"gains": [1, [0]]}):
                before = copy.deepcopy(wrong)
                try:
                    told_by(name, {**arguments, **wrong})
                except CrossError:
                    pass
                self.assertEqual(wrong, before)
            self.assertEqual({key: arguments[key] for key in kept}, kept)
            self.assertEqual(arguments["book"], Book(4, OPEN_WAYS))


class InTurns(unittest.TestCase):

    def test_two_books_in_turns_and_the_first_again(self):
        draw = random.Random(4)
        drawn = books(closed_book, 120, 4)
        told = [drawn_arguments(draw, book) for book in drawn]
        for name in without_crossings():
            expected = [exactly(told_by(name, arguments)) for arguments in told]
            again = [exactly(told_by(name, arguments)) for arguments in told[::-1]]
            self.assertEqual(again[::-1], expected)

    def test_two_rooms_in_turns_and_the_first_again(self):
        draw = random.Random(5)
        for book in [k_book()] + books(closed_book, 100, 5):
            first, second = drawn_arguments(draw, book), drawn_arguments(draw, book)
            second["rooms"] = [room + 1 for room in first["rooms"]]
            for name in without_crossings():
                expected = exactly(told_by(name, first))
                other = exactly(told_by(name, second))
                self.assertEqual(exactly(told_by(name, first)), expected)
                self.assertEqual(exactly(told_by(name, second)), other)

    def test_equal_arguments(self):
        draw = random.Random(6)
        for book in [k_book()] + books(closed_book, 100, 6):
            arguments = drawn_arguments(draw, book)
            equal = {key: copy.deepcopy(thing) for key, thing in arguments.items() if key != "book"}
            equal["book"] = Book(book.gates(), book.ways())
            for name in without_crossings():
                self.assertEqual(exactly(told_by(name, equal)), exactly(told_by(name, arguments)))

    def test_one_list_changed_in_place_is_judged_anew(self):
        book, rooms = k_book(), [1] * 9
        self.assertEqual(plans.most(book, rooms), 3)
        self.assertIsNone(plans.plan_fault(book, rooms, [1, 0, 0, 0, 0, 1, 1]))
        rooms[0] = 0
        self.assertEqual(plans.most(book, rooms), 2)
        self.assertIsNone(plans.plan_of(book, rooms, 3))
        self.assertEqual(cuts.room_of(book, rooms, cuts.cut_below(book, rooms, 3)), 2)
        self.assertEqual(plans.plan_fault(book, rooms, [1, 0, 0, 0, 0, 1, 1]), ("gate", 0))
        rooms[0] = -1
        with self.assertRaises(errors.BadRooms):
            plans.most(book, rooms)
        rooms[0] = 1
        self.assertEqual(plans.most(book, rooms), 3)
        lot = [0, 3]
        self.assertEqual(cuts.unmet(book, lot), 2)
        lot.append(6)
        self.assertIs(cuts.is_cut(book, lot), True)
        self.assertIsNone(cuts.unmet(book, lot))
        self.assertEqual(crossings.within(book, lot), [])
        lot.append(6)
        self.assertIs(cuts.is_cut(book, lot), False)
        with self.assertRaises(errors.BadLot):
            crossings.within(book, lot)
        lot[3] = 5
        self.assertEqual(crossings.within(book, lot), [3, 6])

    def test_plans_and_gains_changed_in_place_are_judged_anew(self):
        book, told, plan = k_book(), [2, -1, 1, 4, 4, 4, 4], [1, 0, 0, 0, 0, 1, 1]
        self.assertIsNone(gains.loses(book, told))
        self.assertEqual(gains.gain(book, told, plan), 10)
        told[1] = 100
        self.assertEqual(gains.loses(book, told), (0, 1, 1))
        plan[1] = 1
        self.assertEqual(gains.gain(book, told, plan), 110)
        self.assertEqual(plans.loads(book, plan), [1, 2, 1, 2, 1, 2, 1, 1, 0])
        self.assertEqual(plans.plan_fault(book, [1] * 9, plan), ("gate", 1))
        plan.pop()
        self.assertEqual(plans.plan_fault(book, [1] * 9, plan), ("form",))
        with self.assertRaises(errors.BadPlan):
            gains.gain(book, told, plan)

    def test_later_changes_of_arguments_have_no_effect(self):
        rooms = [1] * 9
        plan = plans.plan_of(k_book(), rooms, 3)
        cut = cuts.cut_below(k_book(), rooms, 4)
        kept = (list(plan), list(cut))
        rooms[:] = [0] * 9
        self.assertEqual((plan, cut), kept)
        ways = [list(row) for row in K_WAYS]
        book = Book(9, ways)
        ways.pop()
        self.assertIsNone(crossings.lack(book))


class ErrorsInOrder(unittest.TestCase):

    def assert_raises(self, name, arguments, kind, kept):
        """Assert that a call raises just this kind of error, with the very objects, by place and by name."""
        function, parameters = FUNCTIONS[name]
        passed = [arguments[parameter] for parameter in parameters]
        named = dict(zip(parameters, passed))
        for call in (lambda: function(*passed), lambda: function(**named)):
            with self.assertRaises(CrossError) as caught:
                call()
            self.assertIs(caught.exception.__class__, getattr(errors, kind), (name, arguments))
            for key, thing in kept.items():
                self.assertIs(getattr(caught.exception, key), thing)

    def test_one_wrong_thing(self):
        for name, (_, parameters) in FUNCTIONS.items():
            for parameter, kind, key in DUE:
                for thing in WRONG[parameter] if parameter in parameters else []:
                    for right in (k_arguments(), open_arguments()):
                        self.assert_raises(name, {**right, parameter: thing}, kind, {key: thing})

    def test_several_wrong_things_at_once(self):
        for name, (_, parameters) in FUNCTIONS.items():
            due = [row for row in DUE if row[0] in parameters]
            for several in product([False, True], repeat=len(due)):
                rows = [row for row, is_wrong in zip(due, several) if is_wrong]
                for at in range(9 if rows else 0):
                    wrong = {row[0]: WRONG[row[0]][at % len(WRONG[row[0]])] for row in rows}
                    parameter, kind, key = rows[0]
                    for right in (k_arguments(), open_arguments()):
                        self.assert_raises(name, {**right, **wrong}, kind, {key: wrong[parameter]})

    def test_any_object_for_a_book(self):
        for name in FUNCTIONS:
            for thing in any_objects():
                if not isinstance(thing, Book):
                    self.assert_raises(name, {**k_arguments(), "book": thing}, "BadBook", {"thing": thing})

    def test_a_parameter_for_any_object_has_no_error(self):
        for arguments in (k_arguments(), open_arguments()):
            for thing in any_objects():
                for name in ("is_cut", "plan_fault"):
                    told_by(name, {**arguments, "thing": thing})

    def test_not_closed_just_where_a_closed_book_is_asked(self):
        for name in FUNCTIONS:
            if name in ASK_CLOSED:
                self.assert_raises(name, open_arguments(), "NotClosed", {"one": 0, "gate": 0, "other": 2})
            else:
                told_by(name, open_arguments())

    def test_not_closed_with_the_first_triple(self):
        draw = random.Random(7)
        found = 0
        for book in books(closed_book, 250, 7):
            ways = book.ways()
            if len(ways) > 1:
                del ways[draw.randrange(len(ways))]
            book = Book(book.gates(), ways)
            triple = first_lack(ways)
            for name in ASK_CLOSED if triple is not None else ():
                found += 1
                with self.assertRaises(NotClosed) as caught:
                    told_by(name, drawn_arguments(draw, book))
                error = caught.exception
                self.assertEqual(exactly((error.one, error.gate, error.other)), exactly(triple))
        self.assertGreater(found, 100)

    def test_what_is_changed_later_is_so_in_the_error(self):
        rooms = [1, 2]
        with self.assertRaises(errors.BadRooms) as caught:
            plans.most(k_book(), rooms)
        rooms.append(3)
        self.assertEqual(caught.exception.rooms, [1, 2, 3])


if __name__ == "__main__":
    unittest.main()

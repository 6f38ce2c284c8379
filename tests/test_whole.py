"""[2.1], [2.2], [2.3] and the whole interface: all functions that take a book, of all files, at once."""

import copy
import importlib
import inspect
import random
import unittest
from itertools import product

from tests.drawn import books, closed_book
from tests.test_calls import has_list, spoil
from tests.test_tolls import sums_gains
from tests.things import K_WAYS, any_objects, as_tuples, deep, exactly, first_lack, k_book
from waysthatcross import errors
from waysthatcross.books import Book
from waysthatcross.errors import CrossError, Loses, NotClosed
from waysthatcross.leastcuts import least_cuts

INTERFACE = {
    "changed": {"turned": "book", "struck": "book gate", "freed": "book gate", "least_ways": "book",
                "behind": "one other", "beside": "one other", "put_in": "book gate other"},
    "crossings": {"lack": "book", "crossing": "book one gate other", "within": "book lot",
                  "along": "book one gate other"},
    "cuts": {"unmet": "book lot", "is_cut": "book thing", "small_cuts": "book", "room_of": "book rooms lot",
             "cut_below": "book rooms many"},
    "gains": {"loses": "book gains", "gain": "book gains plan"},
    "gaps": {"greatest": "book rooms", "least_room": "book rooms", "gap": "book rooms", "gap_rooms": "book top"},
    "leastcuts": {"least_cuts": "book rooms", "firsts": "book rooms one other", "lasts": "book rooms one other",
                  "is_ahead": "book rooms one other", "nearest": "book rooms", "farthest": "book rooms",
                  "helping": "book rooms", "hurting": "book rooms"},
    "levels": {"levels": "book rooms lengths", "least_bell": "book rooms lengths many"},
    "made": {"of_roads": "places roads begins ends", "of_places": "places roads begins ends",
             "of_order": "many pairs", "of_leaps": "many rows"},
    "plans": {"loads": "book plan", "plan_fault": "book rooms thing", "most": "book rooms",
              "plan_of": "book rooms many", "by_room": "book rooms gate"},
    "through": {"through": "book rooms lengths bell", "best_sendings": "book rooms lengths bell",
                "labels": "book lengths tolls", "best_stretches": "book rooms lengths bell"},
    "timed": {"sent_fault": "book rooms lengths bell thing", "sent": "sendings",
              "gets_by": "book lengths bell stretches"},
    "tolls": {"toll_fault": "book gains thing", "cost": "book rooms tolls", "dearest": "book rooms gains",
              "dearest_plan": "book rooms gains", "best_tolls": "book rooms gains"},
    "webs": {"neighbours": "book", "stray": "book"},
}
LATER = ("gaps", "leastcuts", "levels", "through", "timed", "tolls", "webs")
FUNCTIONS = {name: getattr(importlib.import_module("waysthatcross." + file), name)
             for file, functions in INTERFACE.items() for name in functions}
PARAMETERS = {name: told.split() for functions in INTERFACE.values() for name, told in functions.items()}
LATER_NAMES = [name for file in LATER for name in INTERFACE[file] if name != "sent"]
OF_CUTS = ("firsts", "lasts", "is_ahead")
ASK_GAINS_THAT_FIT = ("dearest", "dearest_plan", "best_tolls")
ASK_CLOSED = tuple(INTERFACE["leastcuts"]) + tuple(INTERFACE["levels"]) + ASK_GAINS_THAT_FIT + (
    "through", "best_sendings", "best_stretches")
OPEN_WAYS = [[0, 1], [1, 2], [2, 0], [3]]

# The errors of the parameters, in the order in which they are due; a thing may be any object.
DUE = [("book", "BadBook", "thing"), ("rooms", "BadRooms", "rooms"), ("gains", "BadGains", "gains"),
       ("lengths", "BadLengths", "lengths"), ("bell", "BadBell", "bell"), ("tolls", "BadTolls", "tolls"),
       ("stretches", "BadStretches", "stretches"), ("many", "BadMany", "many"), ("top", "BadTop", "top")]

# What is wrong for each of them, whatever the book is.
NO_NUMBERS = [None, -1, True, False, "1", [1], {}, deep(list), len]
NO_LISTS = [None, [1], [1] * 20, [1, 1, 1, -1], [True] * 9, [True] * 4, "111111111", "1111", {}, deep(tuple), len, 9]
WRONG = {
    "book": [None, 0, [], (9, K_WAYS), {}, "book", len, K_WAYS, [k_book()], deep(list)],
    "rooms": NO_LISTS, "lengths": NO_LISTS, "tolls": NO_LISTS,
    "gains": [None, [1] * 20, [True] * 7, [True] * 4, "1111111", {0: 1}, deep(list), len, 7],
    "bell": NO_NUMBERS, "many": NO_NUMBERS, "top": NO_NUMBERS,
    "stretches": [None, [(0, 0)], [(0, 0)] * 20, [(0, -1)] * 9, [(0, 0, 0)] * 4, [0] * 9, "0000", {}, deep(list), len],
}


def k_arguments(name):
    """Return right arguments for a function and K, by the names of parameters."""
    thing = {"sent_fault": [(0, 0, 1, 1), [5, 0, 3, 1]], "toll_fault": [0, 0, 2, 2, 0, 4, 0, 2, 0]}
    return {"book": k_book(), "rooms": [2, 1, 2, 2, 1, 2, 2, 2, 1], "lengths": [1, 2, 1, 1, 3, 1, 1, 1, 1], "bell": 5,
            "gains": [2, -1, 1, 4, 4, 4, 4], "tolls": [0, 0, 2, 2, 0, 4, 0, 2, 0], "many": 10, "top": 1,
            "one": [6, 0, 3], "other": [2, 5, 7], "thing": thing.get(name),
            "stretches": [(0, 0), [1, 0], (3, 2), (0, 2), (1, 0), (1, 3), (0, 0), (3, 2), (0, 0)]}


def open_arguments(name):
    """Return right arguments for a function and a book that is not closed."""
    thing = {"sent_fault": [(0, 0, 1, 1)], "toll_fault": [1, 0, 2, 5]}
    return {"book": Book(4, OPEN_WAYS), "rooms": [1, 2, 3, 4], "lengths": [1, 0, 2, 1], "bell": 5,
            "gains": [1, 1, 1, 5], "tolls": [1, 0, 2, 5], "many": 3, "top": 1, "one": None, "other": [9],
            "thing": thing.get(name), "stretches": [(0, 1), (2, 3), (0, 0), (1, 9)]}


def drawn_arguments(draw, book):
    """Return right arguments for all functions and a closed book."""
    gates = range(book.gates())
    rooms = [draw.randint(1, 3) for _ in gates]
    told = least_cuts(book, rooms)
    tolls = [draw.randint(0, 5) for _ in gates]
    sendings = [(draw.randrange(len(book.ways())), turn, turn + 1, 1) for turn in range(3 if book.ways() else 0)]
    return {"book": book, "rooms": rooms, "lengths": [draw.randint(0, 4) for _ in gates], "bell": draw.randint(0, 20),
            "gains": sums_gains(draw, book, 3), "tolls": tolls, "many": draw.randint(0, 40), "top": 1,
            "one": draw.choice(told), "other": draw.choice(told), "thing": draw.choice([tolls, sendings]),
            "stretches": [(draw.randint(0, 4), draw.randint(0, 4)) for _ in gates]}


def told_by(name, arguments):
    """Return what the function tells of those of the arguments that it takes."""
    return FUNCTIONS[name](*[arguments[parameter] for parameter in PARAMETERS[name]])


def drawn_cases(many, start):
    """Return drawn arguments for so many closed books of few ways."""
    draw = random.Random(start)
    return [drawn_arguments(draw, book) for book in books(closed_book, many, start) if len(book.ways()) < 16]


class Interface(unittest.TestCase):

    def test_names_files_and_parameters(self):
        for file, functions in INTERFACE.items():
            for name in functions:
                self.assertEqual(FUNCTIONS[name].__module__, "waysthatcross." + file)
                self.assertEqual(FUNCTIONS[name].__name__, name)
                self.assertEqual(list(inspect.signature(FUNCTIONS[name]).parameters), PARAMETERS[name])

    def test_by_name_in_any_order(self):
        for name in LATER_NAMES:
            for make in (k_arguments, open_arguments):
                arguments = make(name)
                if make is k_arguments or name not in ASK_CLOSED:
                    expected = exactly(told_by(name, arguments))
                    named = {parameter: arguments[parameter] for parameter in PARAMETERS[name]}
                    first, *rest = PARAMETERS[name]
                    self.assertEqual(exactly(FUNCTIONS[name](**named)), expected)
                    self.assertEqual(exactly(FUNCTIONS[name](**dict(list(named.items())[::-1]))), expected)
                    rest = {key: named[key] for key in rest}
                    self.assertEqual(exactly(FUNCTIONS[name](named[first], **rest)), expected)


class ListsAndTuples(unittest.TestCase):

    def test_they_mean_the_same(self):
        cases = [(name, k_arguments(name)) for name in LATER_NAMES]
        cases += [(name, arguments) for arguments in drawn_cases(80, 1) for name in LATER_NAMES]
        for name, arguments in cases:
            expected = exactly(told_by(name, arguments))
            tuples = {key: as_tuples(thing) for key, thing in arguments.items()}
            self.assertEqual(exactly(told_by(name, tuples)), expected)
            book = arguments["book"]
            tuples["book"] = Book(book.gates(), as_tuples(book.ways()))
            self.assertEqual(exactly(told_by(name, tuples)), expected)

    def test_told_lists_belong_to_the_caller(self):
        seen = []
        for name in LATER_NAMES:
            arguments = k_arguments(name)
            first, second = told_by(name, arguments), told_by(name, arguments)
            expected = exactly(second)
            self.assertEqual(exactly(first), expected)
            seen += [name] if has_list(first) else []
            spoil(first)
            self.assertEqual(exactly(second), expected)
            self.assertEqual(exactly(told_by(name, arguments)), expected)
            self.assertEqual(exactly(told_by(name, k_arguments(name))), expected)
        self.assertEqual(sorted(seen), sorted([
            "least_cuts", "firsts", "lasts", "nearest", "farthest", "helping", "hurting", "levels", "best_sendings",
            "labels", "best_stretches", "dearest_plan", "best_tolls", "neighbours", "stray"]))

    def test_told_rooms_with_a_gap_belong_to_the_caller(self):
        arguments = open_arguments("gap_rooms")
        told = told_by("gap_rooms", arguments)
        self.assertEqual(exactly(told), exactly([1, 1, 1, 0]))
        spoil(told)
        self.assertEqual(told_by("gap_rooms", arguments), [1, 1, 1, 0])

    def test_no_argument_is_changed(self):
        cases = [(name, make(name)) for name in LATER_NAMES for make in (k_arguments, open_arguments)]
        cases += [(name, arguments) for arguments in drawn_cases(40, 2) for name in LATER_NAMES]
        for name, arguments in cases:
            book = arguments["book"]
            ways = book.ways()
            kept = copy.deepcopy({key: thing for key, thing in arguments.items() if key != "book"})
            try:
                told_by(name, arguments)
            except CrossError:
                self.assertEqual(ways, OPEN_WAYS)
            self.assertEqual(exactly({key: arguments[key] for key in kept}), exactly(kept))
            self.assertEqual(book.ways(), ways)
            self.assertEqual(book, Book(book.gates(), ways))


class InTurns(unittest.TestCase):

    def test_two_books_in_turns_and_the_first_again(self):
        cases = drawn_cases(80, 3)
        for name in LATER_NAMES:
            expected = [exactly(told_by(name, arguments)) for arguments in cases]
            again = [exactly(told_by(name, arguments)) for arguments in cases[::-1]]
            self.assertEqual(again[::-1], expected)

    def test_two_rooms_two_gains_and_two_lengths_in_turns(self):
        draw = random.Random(4)
        for first in drawn_cases(60, 4):
            second = drawn_arguments(draw, first["book"])
            for name in LATER_NAMES:
                expected, other = exactly(told_by(name, first)), exactly(told_by(name, second))
                self.assertEqual(exactly(told_by(name, first)), expected)
                self.assertEqual(exactly(told_by(name, second)), other)

    def test_an_equal_book_and_equal_arguments(self):
        for arguments in drawn_cases(60, 5):
            equal = {key: copy.deepcopy(thing) for key, thing in arguments.items() if key != "book"}
            equal["book"] = Book(arguments["book"].gates(), arguments["book"].ways())
            for name in LATER_NAMES:
                expected = exactly(told_by(name, arguments))
                self.assertEqual(exactly(told_by(name, equal)), expected)

    def test_a_book_that_was_asked_much_is_as_it_was(self):
        for arguments in drawn_cases(40, 6):
            book = arguments["book"]
            fresh = Book(book.gates(), book.ways())
            for name in LATER_NAMES:
                told_by(name, arguments)
            self.assertTrue(book == fresh and fresh == book)
            for name in ("lack", "small_cuts", "turned", "least_ways"):
                self.assertEqual(told_by(name, arguments), told_by(name, {"book": fresh}))
            self.assertEqual((book.gates(), book.ways()), (fresh.gates(), fresh.ways()))

    def test_later_changes_of_what_was_told_or_passed_have_no_effect(self):
        ways = [list(row) for row in K_WAYS]
        book = Book(9, ways)
        cuts = FUNCTIONS["small_cuts"](book)
        spoil(cuts)
        spoil(ways)
        spoil(book.ways())
        for name in LATER_NAMES:
            self.assertEqual(exactly(told_by(name, {**k_arguments(name), "book": book})),
                             exactly(told_by(name, k_arguments(name))))
        self.assertEqual(FUNCTIONS["small_cuts"](book), FUNCTIONS["small_cuts"](k_book()))


class ErrorsInOrder(unittest.TestCase):

    def assert_raises(self, name, arguments, kind, kept):
        """Assert that a call raises just this kind of error, with the very objects, by place and by name."""
        passed = [arguments[parameter] for parameter in PARAMETERS[name]]
        for call in (lambda: FUNCTIONS[name](*passed), lambda: FUNCTIONS[name](**dict(zip(PARAMETERS[name], passed)))):
            with self.assertRaises(CrossError) as caught:
                call()
            self.assertIs(caught.exception.__class__, getattr(errors, kind), (name, arguments))
            for key, thing in kept.items():
                self.assertIs(getattr(caught.exception, key), thing)

    def test_one_wrong_thing(self):
        for name, (parameter, kind, key) in product(LATER_NAMES, DUE):
            for thing in WRONG[parameter] if parameter in PARAMETERS[name] else []:
                for right in (k_arguments(name), open_arguments(name)):
                    self.assert_raises(name, {**right, parameter: thing}, kind, {key: thing})

    def test_several_wrong_things_at_once(self):
        for name in LATER_NAMES:
            due = [row for row in DUE if row[0] in PARAMETERS[name]]
            for several in product([False, True], repeat=len(due)):
                rows = [row for row, is_wrong in zip(due, several) if is_wrong]
                for at in range(5 if rows else 0):
                    wrong = {row[0]: WRONG[row[0]][(3 * at + 1) % len(WRONG[row[0]])] for row in rows}
                    parameter, kind, key = rows[0]
                    for right in (k_arguments(name), open_arguments(name)):
                        self.assert_raises(name, {**right, **wrong}, kind, {key: wrong[parameter]})

    def test_not_closed_just_where_a_closed_book_is_asked(self):
        for name in LATER_NAMES:
            if name in ASK_CLOSED:
                self.assert_raises(name, open_arguments(name), "NotClosed", {"one": 0, "gate": 0, "other": 2})
            else:
                told_by(name, open_arguments(name))

    def test_not_closed_with_the_first_triple(self):
        draw = random.Random(7)
        found = 0
        for arguments in drawn_cases(200, 7):
            ways = arguments["book"].ways()
            if len(ways) > 1:
                at = draw.randrange(len(ways))
                book = Book(arguments["book"].gates(), ways[:at] + ways[at + 1:])
                triple = first_lack(book.ways())
                gains = arguments["gains"][:at] + arguments["gains"][at + 1:]
                for name in ASK_CLOSED if triple is not None else ():
                    found += 1
                    with self.assertRaises(NotClosed) as caught:
                        told_by(name, {**arguments, "book": book, "gains": gains})
                    error = caught.exception
                    self.assertEqual(exactly((error.one, error.gate, error.other)), exactly(triple))
        self.assertGreater(found, 500)

    def test_loses_just_where_gains_that_fit_are_asked(self):
        for name in LATER_NAMES:
            arguments = {**k_arguments(name), "gains": [3, 5, 0, 0, 0, 0, 0]}
            if name in ASK_GAINS_THAT_FIT:
                self.assert_raises(name, arguments, "Loses", {"one": 0, "gate": 1, "other": 1})
            else:
                told_by(name, arguments)
        self.assertTrue(issubclass(Loses, CrossError))

    def test_what_raises_an_error_changes_nothing(self):
        for name in LATER_NAMES:
            for parameter, wrong in (("rooms", [1, [2]]), ("lengths", [1, [2]]), ("gains", [[1]]), ("tolls", [[0], 1]),
                                     ("stretches", [[0, 1], [2]]), ("one", [0, [3]]), ("other", [[1]])):
                arguments = {**k_arguments(name), parameter: wrong}
                kept = copy.deepcopy({key: arguments[key] for key in arguments if key != "book"})
                if parameter in PARAMETERS[name]:
                    with self.assertRaises(CrossError):
                        told_by(name, arguments)
                self.assertEqual({key: arguments[key] for key in kept}, kept)
                self.assertEqual(arguments["book"], k_book())

    def test_what_is_changed_later_is_so_in_the_error(self):
        rooms = [1, [2]]
        with self.assertRaises(errors.BadRooms) as caught:
            FUNCTIONS["nearest"](k_book(), rooms)
        rooms[1].append(3)
        self.assertEqual(caught.exception.rooms, [1, [2, 3]])

    def test_a_parameter_for_any_object_has_no_error(self):
        for name in ("sent_fault", "toll_fault"):
            for thing in any_objects():
                for make in (k_arguments, open_arguments):
                    told_by(name, {**make(name), "thing": thing})


class BadBooks(unittest.TestCase):

    def assert_bad(self, thing, name, passed):
        named = dict(zip(PARAMETERS[name], passed))
        for call in (lambda: FUNCTIONS[name](*passed), lambda: FUNCTIONS[name](**named)):
            with self.assertRaises(errors.BadBook) as caught:
                call()
            self.assertIs(caught.exception.thing, thing)

    def test_ahead_of_all_else(self):
        asking = [name for name, parameters in PARAMETERS.items() if parameters[0] == "book"]
        self.assertEqual(len(asking), 48)
        for thing in [thing for thing in any_objects() if not isinstance(thing, Book)]:
            for name in asking:
                many = len(PARAMETERS[name]) - 1
                for rest in ([None] * many, [-1] * many, [k_book()] * many):
                    self.assert_bad(thing, name, [thing] + rest)

    def test_of_one_then_of_other(self):
        for thing in [thing for thing in any_objects() if not isinstance(thing, Book)]:
            for name in ("behind", "beside"):
                self.assert_bad(thing, name, [thing, k_book()])
                self.assert_bad(thing, name, [k_book(), thing])
                self.assert_bad(thing, name, [thing, [None]])
            self.assert_bad(thing, "put_in", [k_book(), 1, thing])
            with self.assertRaises(errors.BadGate):
                FUNCTIONS["put_in"](k_book(), 9, thing)


if __name__ == "__main__":
    unittest.main()

"""[9.1], [9.2], [9.3], [9.5], and the interface's line of made.py."""

import copy
import inspect
import random
import unittest
from itertools import combinations, permutations, product

from tests.things import any_objects, as_tuples, deep, exactly, first_lack, k_book
from waysthatcross import made
from waysthatcross.books import Book
from waysthatcross.crossings import lack
from waysthatcross.errors import BadBegins, BadEnds, BadMany, BadPairs, BadPlaces, BadRoads, BadRows, CrossError
from waysthatcross.made import of_leaps, of_order, of_places, of_roads
from waysthatcross.plans import most

PARAMETERS = {
    "of_roads": ["places", "roads", "begins", "ends"],
    "of_places": ["places", "roads", "begins", "ends"],
    "of_order": ["many", "pairs"],
    "of_leaps": ["many", "rows"],
}
NO_NUMBERS = [thing for thing in any_objects() if type(thing) is not int or thing < 0] + [-5, k_book(), len]


def plain_trails(roads, begins, ends):
    """Return all rows of roads from a begin to an end with no place twice, going on road by road."""
    told, rows = [], [[road] for road in range(len(roads)) if roads[road][0] in begins]
    while rows:
        longer = []
        for row in rows:
            places = [roads[row[0]][0]] + [roads[road][1] for road in row]
            if len(set(places)) == len(places):
                told += [row] if places[-1] in ends else []
                longer += [row + [road] for road in range(len(roads)) if roads[road][0] == places[-1]]
        rows = longer
    return sorted(told)


def drawn_web(draw, most_places=6, most_roads=9):
    """Return places, roads, begins and ends."""
    places = draw.randint(2, most_places)
    pairs = list(permutations(range(places), 2))
    roads = [draw.choice(pairs) for _ in range(draw.randint(0, most_roads))]
    mixed = draw.sample(range(places), places)
    begins = mixed[:draw.randint(0, min(3, places))]
    ends = mixed[len(begins):][:draw.randint(0, 3)]
    return places, roads, begins, ends


def plain_order(many, pairs):
    """Return the rising rows of things that no thing fits into, ahead of, between or behind."""
    ahead = set(map(tuple, pairs))
    for between in range(many):
        ahead |= {(one, other) for one, other in product(range(many), repeat=2)
                  if (one, between) in ahead and (between, other) in ahead}
    rising = [list(row) for size in range(1, many + 1) for row in combinations(range(many), size)
              if all(pair in ahead for pair in zip(row, row[1:]))]

    def fits_into(thing, row):
        return all((thing, other) in ahead or (other, thing) in ahead for other in row)

    return sorted(row for row in rising if not any(fits_into(thing, row) for thing in range(many)))


def plain_leaps(many, rows):
    """Return the ways of rows, and of leaps."""
    told = [[many + 2 * at] + list(row) + [many + 2 * at + 1] for at, row in enumerate(rows)]
    for one, other in product(range(len(rows)), repeat=2):
        if one != other and set(rows[one]) & set(rows[other]):
            told.append([many + 2 * one, many + 2 * other + 1])
    return told


def drawn_leaps(draw):
    many = draw.randint(0, 7)
    rows = [draw.sample(range(many), draw.randint(0, many)) for _ in range(draw.randint(0, (9 - many) // 2))]
    return many, rows


def drawn_order(draw):
    many = draw.randint(0, 7)
    pairs = list(combinations(range(many), 2))
    return many, [draw.choice(pairs) for _ in range(draw.randint(0, 9 if pairs else 0))]


class Examples(unittest.TestCase):

    def test_a_web(self):
        roads = [(0, 1), (1, 2), (0, 2)]
        self.assertEqual(of_roads(3, roads, [0], [2]), Book(3, [[0, 1], [2]]))
        self.assertEqual(of_places(3, roads, [0], [2]), Book(3, [[0, 1, 2], [0, 2]]))

    def test_an_order(self):
        self.assertEqual(of_order(3, [(0, 2), (1, 2)]), Book(3, [[0, 2], [1, 2]]))

    def test_leaps_are_k_otherwise_called(self):
        told = of_leaps(2, [[0], [0, 1], [1]])
        ways = [[2, 0, 3], [4, 0, 1, 5], [6, 1, 7], [2, 5], [4, 3], [4, 7], [6, 5]]
        self.assertEqual(told, Book(8, ways))
        names = {0: 1, 1: 4, 2: 0, 3: 2, 4: 3, 5: 5, 6: 6, 7: 7}
        self.assertEqual([[names[gate] for gate in row] for row in told.ways()], k_book().ways())


class Webs(unittest.TestCase):

    def assert_told(self, places, roads, begins, ends):
        trails = plain_trails(roads, begins, ends)
        told = of_roads(places, roads, begins, ends)
        self.assertIs(type(told), Book)
        self.assertEqual(told.gates(), len(roads))
        self.assertEqual(exactly(told.ways()), exactly(trails))
        rows = {tuple([roads[row[0]][0]] + [roads[road][1] for road in row]) for row in trails}
        other = of_places(places, roads, begins, ends)
        self.assertEqual(other.gates(), places)
        self.assertEqual(exactly(other.ways()), exactly([list(row) for row in sorted(rows)]))
        for function, book in ((of_roads, told), (of_places, other)):
            self.assertEqual(function(places, as_tuples(roads), tuple(begins), tuple(ends)), book)
            lists = [list(road) for road in roads]
            self.assertEqual(function(ends=ends, begins=begins, roads=lists, places=places), book)
            self.assertIsNone(lack(book))
        return trails

    def test_going_on_road_by_road(self):
        draw = random.Random(1)
        seen = 0
        for _ in range(1500):
            seen += len(self.assert_told(*drawn_web(draw))) > 2
        self.assertGreater(seen, 150)

    def test_all_small_webs(self):
        roads = list(permutations(range(3), 2))
        for many in range(5):
            for told in combinations(roads, many):
                for begins, ends in (([0], [2]), ([0, 1], [2]), ([1], [0, 2]), ([], [0]), ([0], []), ([2, 0], [1])):
                    self.assert_told(3, list(told), begins, ends)

    def test_alike_roads_are_two(self):
        self.assertEqual(of_roads(2, [(0, 1), (0, 1)], [0], [1]), Book(2, [[0], [1]]))
        self.assertEqual(of_places(2, [(0, 1), (0, 1)], [0], [1]), Book(2, [[0, 1]]))
        self.assertEqual(most(of_roads(2, [(0, 1), (0, 1)], [0], [1]), [1, 1]), 2)

    def test_roads_both_ways_about(self):
        roads = [(0, 1), (1, 0), (1, 2), (2, 1), (2, 3), (3, 2), (0, 3)]
        self.assertEqual(self.assert_told(4, roads, [0], [3]), [[0, 2, 4], [6]])
        self.assertEqual(self.assert_told(4, roads, [3], [0]), [[5, 3, 1]])
        self.assertEqual(self.assert_told(4, roads, [1], [2]), [[1, 6, 5], [2]])

    def test_by_other_begins_and_other_ends(self):
        roads = [(0, 1), (1, 2), (2, 3), (3, 1)]
        self.assertEqual(self.assert_told(4, roads, [0, 1], [2, 3]), [[0, 1], [0, 1, 2], [1], [1, 2]])

    def test_begins_without_roads_and_empty_lists(self):
        for begins, ends in (([], []), ([0], []), ([], [0]), ([0, 2], [1]), ((), ())):
            self.assert_told(3, [], begins, ends)
        self.assert_told(4, [(0, 1), (1, 3)], [2], [3])
        self.assert_told(4, [(0, 1), (1, 3)], [0], [2])
        self.assertEqual(of_roads(0, [], [], []), Book(0, []))
        self.assertEqual(of_places(0, (), (), ()), Book(0, []))
        self.assertEqual(of_places(5, [(0, 1)], [0], [2]), Book(5, []))
        self.assertEqual(of_roads(10 ** 30, [(0, 10 ** 30 - 1)], [0], [10 ** 30 - 1]), Book(1, [[0]]))

    def test_nine_places_nine_roads(self):
        roads = [(place, place + 1) for place in range(8)] + [(0, 8)]
        self.assertEqual(self.assert_told(9, roads, [0], [8]), [[0, 1, 2, 3, 4, 5, 6, 7], [8]])
        twice = [(0, 1), (0, 1), (0, 1), (1, 2), (1, 2), (1, 2), (2, 3), (2, 3), (2, 3)]
        self.assertEqual(len(self.assert_told(9, twice, [0], [3])), 27)
        self.assertEqual(of_places(9, twice, [0], [3]).ways(), [[0, 1, 2, 3]])

    def test_errors_in_order(self):
        no_roads = [[0, 0], [0, 3], [3, 0], [0, -1], [0], [0, 1, 2], [], (), [0, True], [False, 1], ["0", 1], "01", 0,
                    None, {}, {0: 1, 1: 2}, [[0, 1]], [0, None], [0, [1]], k_book(), len, deep(list), deep(tuple)]
        for function in (of_roads, of_places):
            for places in NO_NUMBERS:
                with self.assertRaises(BadPlaces) as caught:
                    function(places, None, None, None)
                self.assertIs(caught.exception.places, places)
            for road in no_roads:
                for at, roads in enumerate(([road], [(0, 1), road], ([1, 0], (1, 2), road, road))):
                    for begins, ends in (([0], [2]), (None, None), ([3], [0, 0])):
                        with self.assertRaises(BadRoads) as caught:
                            function(3, roads, begins, ends)
                        self.assertEqual(exactly(caught.exception.index), exactly(at))
            for roads in ("", "01", None, 0, 1, True, {}, {0: (0, 1)}, k_book(), len, deep(dict)):
                with self.assertRaises(BadRoads) as caught:
                    function(3, roads, None, None)
                self.assertEqual(exactly(caught.exception.index), exactly(0))

    def test_begins_then_ends(self):
        wrong = [[0, 0], [3], [-1], [True], ["0"], [None], [[0]], "0", "", None, 0, {}, {0: 0}, [0, 1, 0], (0, 3),
                 k_book(), len, deep(list), deep(tuple), [10 ** 30]]
        for function in (of_roads, of_places):
            for thing in wrong:
                for ends in ([2], thing, None):
                    with self.assertRaises(BadBegins) as caught:
                        function(3, [(0, 1)], thing, ends)
                    self.assertIs(caught.exception.begins, thing)
                with self.assertRaises(BadEnds) as caught:
                    function(3, [(0, 1)], [0], thing)
                self.assertIs(caught.exception.ends, thing)
            for begins, ends in (([0], [0]), ([0, 1], [2, 1]), ((2,), [0, 2]), ([0, 1, 2], (0,))):
                with self.assertRaises(BadEnds) as caught:
                    function(3, [(0, 1)], begins, ends)
                self.assertIs(caught.exception.ends, ends)


class Orders(unittest.TestCase):

    def assert_told(self, many, pairs):
        told = of_order(many, pairs)
        self.assertIs(type(told), Book)
        self.assertEqual(told.gates(), many)
        self.assertEqual(exactly(told.ways()), exactly(plain_order(many, pairs)))
        self.assertEqual(of_order(many, as_tuples(pairs)), told)
        self.assertEqual(of_order(pairs=[list(pair) for pair in pairs], many=many), told)
        self.assertIsNone(lack(told))

    def test_all_rising_rows_of_small_orders(self):
        for many in range(5):
            pairs = list(combinations(range(many), 2))
            for size in range(len(pairs) + 1):
                for told in combinations(pairs, size):
                    self.assert_told(many, list(told))

    def test_drawn_orders(self):
        draw = random.Random(2)
        for _ in range(400):
            self.assert_told(*drawn_order(draw))

    def test_pairs_that_follow_from_others_and_alike_ones(self):
        for pairs in ([(0, 1), (1, 2)], [(0, 2), (0, 1), (1, 2)], [(1, 2), (0, 1), (0, 1), (1, 2), (0, 2), (0, 2)]):
            self.assertEqual(of_order(3, pairs), Book(3, [[0, 1, 2]]))
        self.assertEqual(of_order(4, [(0, 3), (1, 2)]), Book(4, [[0, 3], [1, 2]]))

    def test_things_alone(self):
        self.assertEqual(of_order(3, []), Book(3, [[0], [1], [2]]))
        self.assertEqual(of_order(0, ()), Book(0, []))
        self.assertEqual(of_order(4, [(1, 3)]), Book(4, [[0], [1, 3], [2]]))

    def test_nine_things(self):
        chain = [(thing, thing + 1) for thing in range(8)]
        self.assertEqual(of_order(9, chain), Book(9, [list(range(9))]))
        layers = [(one, other) for one in range(9) for other in range(9) if one // 3 < other // 3]
        told = [[a, b, c] for a in (0, 1, 2) for b in (3, 4, 5) for c in (6, 7, 8)]
        self.assertEqual(of_order(9, layers), Book(9, told))
        self.assert_told(9, [(0, 8), (3, 5), (1, 2), (2, 8), (5, 8), (0, 5)])

    def test_errors_in_order(self):
        for many in NO_NUMBERS:
            for pairs in ([], None, [(0, 0)]):
                with self.assertRaises(BadMany) as caught:
                    of_order(many, pairs)
                self.assertIs(caught.exception.many, many)
        wrong = [[0, 0], [1, 0], [0, 3], [-1, 0], [0], [0, 1, 2], [], (), [0, True], [False, 1], ["0", 1], "01", 0,
                 None, {}, {0: 1, 1: 2}, [[0, 1]], [0, None], [0, [1]], k_book(), len, deep(list), deep(tuple)]
        for pair in wrong:
            for at, pairs in enumerate(([pair], [(0, 1), pair], ([0, 1], (1, 2), pair, pair))):
                with self.assertRaises(BadPairs) as caught:
                    of_order(3, pairs)
                self.assertEqual(exactly(caught.exception.index), exactly(at))
        for pairs in ("", "01", None, 0, 1, True, {}, {0: (0, 1)}, k_book(), len, deep(dict)):
            with self.assertRaises(BadPairs) as caught:
                of_order(3, pairs)
            self.assertEqual(exactly(caught.exception.index), exactly(0))


class Leaps(unittest.TestCase):

    def assert_told(self, many, rows):
        told = of_leaps(many, rows)
        self.assertIs(type(told), Book)
        self.assertEqual(told.gates(), many + 2 * len(rows))
        self.assertEqual(exactly(told.ways()), exactly(plain_leaps(many, rows)))
        self.assertEqual(of_leaps(many, as_tuples(rows)), told)
        self.assertEqual(of_leaps(rows=[list(row) for row in rows], many=many), told)
        self.assertIsNone(lack(told))
        self.assertIsNone(first_lack(told.ways()))

    def test_drawn_rows(self):
        draw = random.Random(3)
        for _ in range(500):
            self.assert_told(*drawn_leaps(draw))

    def test_all_rows_of_two_things(self):
        rows = [[], [0], [1], [0, 1], [1, 0]]
        for size in range(4):
            for told in product(rows, repeat=size):
                self.assert_told(2, list(told))

    def test_empty_rows_alike_rows_and_no_rows(self):
        self.assertEqual(of_leaps(1, [[], []]), Book(5, [[1, 2], [3, 4]]))
        self.assertEqual(of_leaps(0, [()]), Book(2, [[0, 1]]))
        self.assertEqual(of_leaps(0, []), Book(0, []))
        self.assertEqual(of_leaps(4, ()), Book(4, []))
        self.assertEqual(of_leaps(1, [[0], [0]]), Book(5, [[1, 0, 2], [3, 0, 4], [1, 4], [3, 2]]))
        self.assertEqual(of_leaps(2, [[0], [], [0, 1]]), Book(8, [[2, 0, 3], [4, 5], [6, 0, 1, 7], [2, 7], [6, 3]]))

    def test_errors_in_order(self):
        for many in NO_NUMBERS:
            for rows in ([], None, [[0, 0]]):
                with self.assertRaises(BadMany) as caught:
                    of_leaps(many, rows)
                self.assertIs(caught.exception.many, many)
        wrong = [[0, 0], [3], [0, 3], [-1], [True], [0, False], ["0"], "01", "", None, 0, {}, {0: 1}, [[0]], [0, None],
                 [0, 1, 2, 1], k_book(), len, deep(list), deep(tuple), [10 ** 30]]
        for row in wrong:
            for at, rows in enumerate(([row], [(0, 1), row], ([], (2, 0), row, row))):
                with self.assertRaises(BadRows) as caught:
                    of_leaps(3, rows)
                self.assertEqual(exactly(caught.exception.index), exactly(at))
        for rows in ("", "01", None, 0, 1, True, {}, {0: [0]}, k_book(), len, deep(dict)):
            with self.assertRaises(BadRows) as caught:
                of_leaps(3, rows)
            self.assertEqual(exactly(caught.exception.index), exactly(0))


class Arguments(unittest.TestCase):

    def drawn(self, draw, name):
        if name == "of_order":
            return drawn_order(draw)
        return drawn_leaps(draw) if name == "of_leaps" else drawn_web(draw)

    def test_interface(self):
        for name, parameters in PARAMETERS.items():
            function = getattr(made, name)
            self.assertEqual(function.__module__, "waysthatcross.made")
            self.assertEqual(list(inspect.signature(function).parameters), parameters)

    def test_no_argument_is_changed_and_equal_ones_get_equal_answers(self):
        draw = random.Random(4)
        for name in PARAMETERS:
            function = getattr(made, name)
            for _ in range(60):
                arguments = self.drawn(draw, name)
                kept = copy.deepcopy(arguments)
                told = function(*arguments)
                self.assertEqual(exactly(list(arguments)), exactly(list(kept)))
                self.assertEqual(function(*kept), told)
                self.assertEqual(function(*arguments), told)

    def test_later_changes_have_no_effect_and_are_judged_anew(self):
        roads, begins, ends = [[0, 1], [1, 2]], [0], [2]
        told = of_roads(3, roads, begins, ends)
        roads[1][1] = 0
        self.assertEqual(told, Book(2, [[0, 1]]))
        self.assertEqual(of_roads(3, roads, begins, ends), Book(2, []))
        roads[1][1] = 3
        with self.assertRaises(BadRoads):
            of_roads(3, roads, begins, ends)
        roads[1][1] = 2
        ends.append(0)
        with self.assertRaises(BadEnds):
            of_roads(3, roads, begins, ends)
        rows = [[0], [0, 1]]
        told = of_leaps(2, rows)
        rows[1].pop(0)
        self.assertEqual(told, Book(6, [[2, 0, 3], [4, 0, 1, 5], [2, 5], [4, 3]]))
        self.assertEqual(of_leaps(2, rows), Book(6, [[2, 0, 3], [4, 1, 5]]))
        pairs = [[0, 1]]
        self.assertEqual(of_order(2, pairs), Book(2, [[0, 1]]))
        pairs[0].reverse()
        with self.assertRaises(BadPairs):
            of_order(2, pairs)

    def test_what_is_refused_is_not_changed(self):
        for name, arguments in (("of_roads", (3, [[0, 1], [2]], [0, 0], [9])), ("of_leaps", (2, [[0], [2, [1]]])),
                                ("of_places", (3, [[0, 1]], [1, 1], [])), ("of_order", (2, [[0, 1], [1, 0]]))):
            kept = copy.deepcopy(arguments)
            with self.assertRaises(CrossError):
                getattr(made, name)(*arguments)
            self.assertEqual(arguments, kept)


if __name__ == "__main__":
    unittest.main()

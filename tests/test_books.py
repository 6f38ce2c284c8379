"""[3.1], and [2.1], [2.2], [2.3] where they speak of books."""

import inspect
import unittest

from tests.things import K_WAYS, a_function, all_rows, any_objects, deep, k_book, small_books
from waysthatcross import books
from waysthatcross.books import Book
from waysthatcross.errors import BadGates, BadWays


class WhatABookTells(unittest.TestCase):

    def test_interface(self):
        self.assertEqual(Book.__module__, "waysthatcross.books")
        self.assertIs(books.Book, Book)
        self.assertEqual(list(inspect.signature(Book).parameters), ["gates", "ways"])
        for name in ("gates", "ways", "__eq__"):
            self.assertIn(name, vars(Book))

    def test_no_gates_and_no_ways(self):
        book = Book(0, [])
        self.assertEqual(book.gates(), 0)
        self.assertEqual(book.ways(), [])
        self.assertEqual(Book(0, ()).ways(), [])

    def test_gates_without_ways(self):
        self.assertEqual(Book(5, []).gates(), 5)
        self.assertEqual(Book(5, []).ways(), [])

    def test_k(self):
        book = k_book()
        self.assertEqual(book.gates(), 9)
        self.assertEqual(book.ways(), [[0, 1, 2], [3, 1, 4, 5], [6, 4, 7], [0, 5], [3, 2], [3, 7], [6, 5]])

    def test_nine_gates_and_thirty_ways(self):
        rows = [[gate] for gate in range(9)]
        rows += [[gate, (gate + 1) % 9] for gate in range(9)]
        rows += [[(gate + at) % 9 for at in range(9)] for gate in range(9)]
        rows += [[8, 7, 6, 5, 4, 3, 2, 1, 0], [0, 8], [8, 1]]
        self.assertEqual(len(rows), 30)
        book = Book(9, rows)
        self.assertEqual(book.gates(), 9)
        self.assertEqual(book.ways(), rows)

    def test_more_than_the_limits_is_let(self):
        rows = [list(range(start, start + 12)) for start in range(40)]
        self.assertEqual(Book(60, rows).ways(), rows)
        self.assertEqual(Book(10 ** 30, [[10 ** 30 - 1, 0]]).ways(), [[10 ** 30 - 1, 0]])
        self.assertEqual(Book(10 ** 30, []).gates(), 10 ** 30)

    def test_by_name(self):
        self.assertEqual(Book(gates=2, ways=[[1, 0]]).ways(), [[1, 0]])
        self.assertEqual(Book(ways=[[1, 0]], gates=2).gates(), 2)
        self.assertEqual(Book(2, ways=[[1]]).ways(), [[1]])

    def test_lists_and_tuples_mean_the_same(self):
        expected = [[0, 1], [2]]
        for ways in ([[0, 1], [2]], [(0, 1), [2]], [[0, 1], (2,)], ([0, 1], [2]), ((0, 1), (2,))):
            book = Book(3, ways)
            self.assertEqual(book.ways(), expected)
            self.assertEqual(book, Book(3, expected))

    def test_kinds_of_what_is_told(self):
        for ways in (K_WAYS, tuple([tuple(row) for row in K_WAYS])):
            book = Book(9, ways)
            self.assertIs(type(book.gates()), int)
            self.assertIs(type(book.ways()), list)
            self.assertEqual({type(row) for row in book.ways()}, {list})
            self.assertEqual({type(gate) for row in book.ways() for gate in row}, {int})

    def test_the_same_gates_in_another_order_are_another_row(self):
        rows = all_rows(3)
        self.assertEqual(len(rows), 15)
        self.assertEqual(Book(3, rows).ways(), rows)
        self.assertEqual(Book(2, [[0, 1], [1, 0]]).ways(), [[0, 1], [1, 0]])


class WhatIsChangedLater(unittest.TestCase):

    def test_what_was_passed(self):
        ways = [[0, 1], [2]]
        book = Book(3, ways)
        ways[0].append(2)
        ways[1][0] = 7
        ways.append([1])
        self.assertEqual(book.ways(), [[0, 1], [2]])
        self.assertEqual(book, Book(3, [[0, 1], [2]]))

    def test_lists_within_a_tuple_that_was_passed(self):
        row = [0, 1]
        book = Book(3, (row, (2,)))
        row.clear()
        self.assertEqual(book.ways(), [[0, 1], [2]])

    def test_what_was_told(self):
        book = Book(3, [[0, 1], [2]])
        told = book.ways()
        told[0].append(2)
        told[1][0] = 7
        told.append([1])
        self.assertEqual(book.ways(), [[0, 1], [2]])
        self.assertEqual(book, Book(3, [[0, 1], [2]]))

    def test_what_is_told_is_new_each_time(self):
        ways = [[0, 1], [2]]
        book = Book(3, ways)
        once, again = book.ways(), book.ways()
        self.assertEqual(once, again)
        self.assertIsNot(once, again)
        self.assertIsNot(once, ways)
        for at in range(2):
            self.assertIsNot(once[at], again[at])
            self.assertIsNot(once[at], ways[at])

    def test_what_was_passed_is_not_changed(self):
        ways = [[1, 0], (2,), [0]]
        Book(3, ways)
        self.assertEqual(ways, [[1, 0], (2,), [0]])
        wrong = [[1, 0], (2,), [3]]
        with self.assertRaises(BadWays):
            Book(3, wrong)
        self.assertEqual(wrong, [[1, 0], (2,), [3]])


class Equality(unittest.TestCase):

    def test_equal_books(self):
        self.assertTrue(k_book() == k_book())
        self.assertFalse(k_book() != k_book())
        self.assertTrue(Book(0, []) == Book(0, ()))
        book = k_book()
        self.assertTrue(book == book)

    def assert_unlike(self, one, other):
        self.assertFalse(one == other)
        self.assertFalse(other == one)
        self.assertTrue(one != other)
        self.assertTrue(other != one)

    def test_other_books(self):
        book = Book(3, [[0, 1], [2]])
        for gates, ways in ((4, [[0, 1], [2]]), (3, [[0, 1]]), (3, []), (3, [[0, 1], [2], [0]]),
                            (3, [[0, 1], [1]]), (3, [[0], [2]]), (3, [[0, 1, 2], [2]])):
            self.assert_unlike(book, Book(gates, ways))
        self.assert_unlike(Book(0, []), Book(1, []))

    def test_the_order_of_gates_and_of_rows_counts(self):
        book = Book(3, [[0, 1], [2]])
        self.assert_unlike(book, Book(3, [[1, 0], [2]]))
        self.assert_unlike(book, Book(3, [[2], [0, 1]]))

    def test_all_small_books_are_equal_only_to_themselves(self):
        told = small_books(2, 2)
        for at, one in enumerate(told):
            for number, other in enumerate(told):
                self.assertIs(one == other, at == number)
                self.assertIs(one != other, at != number)

    def test_things_that_are_no_book(self):
        things = [thing for thing in any_objects() if not isinstance(thing, Book)]
        things += [(3, [[0]]), [3, [[0]]], [[0]], 3, BadGates(3)]
        for thing in things:
            self.assert_unlike(Book(3, [[0]]), thing)
        self.assert_unlike(Book(0, []), [])
        self.assert_unlike(Book(0, []), 0)


class BadBooks(unittest.TestCase):

    def assert_bad_ways(self, index, gates, ways):
        with self.assertRaises(BadWays) as caught:
            Book(gates, ways)
        self.assertEqual(caught.exception.index, index)
        self.assertIs(type(caught.exception.index), int)
        with self.assertRaises(BadWays) as caught:
            Book(ways=ways, gates=gates)
        self.assertEqual(caught.exception.index, index)

    def test_bad_gates(self):
        things = [thing for thing in any_objects() if type(thing) is not int or thing < 0]
        self.assertIn(-1, things)
        for gates in things + [True, False, "3", None, -3, [3], (3,), {3: 3}]:
            for ways in ([], [[0]]):
                with self.assertRaises(BadGates) as caught:
                    Book(gates, ways)
                self.assertIs(caught.exception.gates, gates)
                with self.assertRaises(BadGates) as caught:
                    Book(ways=ways, gates=gates)
                self.assertIs(caught.exception.gates, gates)

    def test_bad_gates_ahead_of_bad_ways(self):
        for ways in ([[9]], [[]], None, "ways", [[0], [0]], {}):
            for gates in (-1, True, None, "3", [3]):
                with self.assertRaises(BadGates) as caught:
                    Book(gates, ways)
                self.assertIs(caught.exception.gates, gates)

    def test_no_list_of_ways(self):
        for ways in ("", "0", "012", None, 0, 1, True, {}, {0: [0]}, a_function, deep(dict), Book(3, [[0]])):
            self.assert_bad_ways(0, 3, ways)

    def test_what_is_no_row(self):
        things = [[], (), [3], [-1], [0, 3], [3, 0], [0, -1], [True], [False], [1, False], [0, True],
                  [1, 1], [0, 1, 0], (2, 2), ["0"], [None], [[0]], [0, [1]], [(0,)], [{}], [10 ** 30],
                  "0", "", "012", None, 0, 1, True, False, {}, {0: 1}, a_function, Book(3, [[0]]),
                  [Book(1, [])], deep(list), deep(tuple), [a_function], [0, 1, 2, 0]]
        for thing in things:
            self.assert_bad_ways(0, 3, [thing])
            self.assert_bad_ways(0, 3, [thing, [0], [1]])
            self.assert_bad_ways(1, 3, [[0], thing, [1]])
            self.assert_bad_ways(2, 3, ([0], (1, 0), thing))
            self.assert_bad_ways(2, 3, [[0], [0, 1], thing, thing, [0]])

    def test_a_row_that_stood_before(self):
        for first in ([0, 1], (0, 1)):
            for again in ([0, 1], (0, 1)):
                self.assert_bad_ways(1, 3, [first, again])
                self.assert_bad_ways(2, 3, [first, [1, 0], again])
                self.assert_bad_ways(3, 3, ((2,), first, [1, 0], again, first))
                self.assert_bad_ways(2, 3, [first, [2], again, [7]])
                self.assert_bad_ways(1, 3, [first, [7], again])

    def test_no_row_fits_where_there_are_no_gates(self):
        for row in ([0], [], [-1], (0,), [1]):
            self.assert_bad_ways(0, 0, [row])

    def test_the_last_gate_is_one_less_than_gates(self):
        for gates in range(1, 10):
            self.assertEqual(Book(gates, [[gates - 1]]).ways(), [[gates - 1]])
            self.assert_bad_ways(0, gates, [[gates]])
            self.assert_bad_ways(1, gates, [[0], [-1]])

    def test_what_is_refused_may_be_long(self):
        self.assert_bad_ways(0, 3, [[0, 1, 2] * 2000])
        self.assert_bad_ways(2000, 2000, [[gate] for gate in range(2000)] + [[2000]])
        self.assert_bad_ways(2000, 2000, [[gate] for gate in range(2000)] + [[7]])


if __name__ == "__main__":
    unittest.main()

"""[7.1], [7.2], [7.3], [7.7] where they speak of sendings and stretches, and the interface's line of timed.py."""

import random
import unittest

from tests.drawn import books, closed_book, drawn_book, drawn_rooms
from tests.things import any_objects, as_tuples, deep, exactly, k_book
from waysthatcross.books import Book
from waysthatcross.errors import BadBell, BadBook, BadLengths, BadRooms, BadSendings, BadStretches
from waysthatcross.timed import gets_by, sent, sent_fault

K_LENGTHS = [1, 2, 1, 1, 3, 1, 1, 1, 1]
K_STRETCHES = [(0, 0), (1, 0), (3, 2), (0, 2), (1, 0), (1, 4), (0, 0), (3, 2), (0, 0)]
OPEN = Book(3, [[0, 1], [1, 2], [2, 0]])
# Lists of which the second thing is no quadruple of numbers with a last from first on and a rate from 1 on.
NO_QUADRUPLES = [(0, 0, 0), (0, 0, 0, 1, 0), (), [], (0, 1, 0, 1), (0, 0, 0, 0), (0, 0, 0, -1), (0, -1, 0, 1),
                 (-1, 0, 0, 1), (0, -2, -1, 1), (True, 0, 0, 1), (0, False, 0, 1), (0, 0, True, 1), (0, 0, 0, True),
                 ("0", 0, 0, 1), (0, "0", 0, 1), (0, 0, "0", 1), (0, 0, 0, "1"), (0, 0, 0, None), "0001", None, 0,
                 {}, {0: 0, 1: 0, 2: 0, 3: 1}, [[0, 0, 0, 1]], ((0, 0, 0, 1),), [0, 0, [0], 1], len, k_book(),
                 deep(list), deep(tuple), (0, 0, 0, deep(list)), (0, 5, 4, 1), (0, 10 ** 15, 10 ** 15 - 1, 1)]
# Things that are no list of pairs of numbers for two gates.
NO_STRETCHES = [[], [(0, 0)], [(0, 0)] * 3, ((0, 0),), [(0, 0), (0,)], [(0, 0), (0, 0, 0)], [(0, 0), (-1, 0)],
                [(0, 0), (0, -1)], [(0, -1), (0, 0)], [(0, 0), (True, 0)], [(0, 0), (0, False)], [(0, 0), None],
                [(0, 0), "00"], [(0, 0), 0], [0, 0], [(0, 0), (0, None)], [(0, 0), (0, [0])], "0000", None, 0, True, {},
                {0: (0, 0), 1: (0, 0)}, [[(0, 0), (0, 0)]], [(0, 0), {0: 0, 1: 0}], len, OPEN, deep(list), deep(tuple),
                [(0, 0), deep(list)], [(0, 0), (0, "0")]]


def entries(book, lengths, way, begin):
    """Return the pairs (turn, gate) at which who begins a way enters, and the turn of being through."""
    turn, pairs = begin, []
    for gate in book.ways()[way]:
        pairs.append((turn, gate))
        turn += lengths[gate]
    return pairs, turn


def is_number(thing):
    return type(thing) is int and thing >= 0


def is_quadruple(thing):
    """Return whether a thing may stand in sendings, of whatever way."""
    if type(thing) not in (list, tuple) or len(thing) != 4 or not all(is_number(part) for part in thing):
        return False
    return thing[2] >= thing[1] and thing[3] >= 1


def plain_sent_fault(book, rooms, lengths, bell, thing):
    """Return what [7.2] says of any object, going turn by turn."""
    if type(thing) not in (list, tuple) or not all(is_quadruple(part) for part in thing):
        return ("form",)
    if not all(part[0] < len(book.ways()) for part in thing):
        return ("form",)
    entering = {}
    for index, (way, first, last, rate) in enumerate(thing):
        for turn in range(first, last + 1):
            pairs, end = entries(book, lengths, way, turn)
            if end > bell:
                return ("late", index)
            for pair in pairs:
                entering[pair] = entering.get(pair, 0) + rate
    full = sorted(pair for pair, many in entering.items() if many > rooms[pair[1]])
    return ("gate", *full[0]) if full else None


def plain_gets_by(book, lengths, bell, stretches):
    """Return what [7.3] says, going turn by turn."""
    for way in range(len(book.ways())):
        for begin in range(bell + 1):
            pairs, end = entries(book, lengths, way, begin)
            shut = [pair for pair in pairs if stretches[pair[1]][0] <= pair[0] < sum(stretches[pair[1]])]
            if end <= bell and not shut:
                return (way, begin)
    return None


def drawn_lengths(draw, book, top):
    return [draw.choice([0, 1, draw.randint(0, top)]) for _ in range(book.gates())]


def drawn_sendings(draw, book, bell, many):
    told = []
    for _ in range(many if book.ways() else 0):
        first = draw.randint(0, bell)
        told.append((draw.randrange(len(book.ways())), first, first + draw.randint(0, 3), draw.randint(1, 2)))
    return told


class SentFault(unittest.TestCase):

    def assert_fault(self, fault, book, rooms, lengths, bell, thing):
        self.assertEqual(exactly(sent_fault(book, rooms, lengths, bell, thing)), exactly(fault))
        told = sent_fault(thing=as_tuples(thing), bell=bell, lengths=tuple(lengths), rooms=tuple(rooms), book=book)
        self.assertEqual(exactly(told), exactly(fault))

    def test_k(self):
        for thing, fault in (([(0, 0, 1, 1), (5, 0, 3, 1), (6, 0, 3, 1)], None), ([(3, 0, 4, 1)], ("late", 0)),
                             ([(0, 0, 0, 2)], ("gate", 0, 0)), ([], None), ((), None), ([(3, 0, 3, 1)], None),
                             ([[3, 0, 3, 1], [6, 0, 4, 1]], ("late", 1)), ([(7, 0, 0, 1)], ("form",))):
            self.assert_fault(fault, k_book(), [1] * 9, K_LENGTHS, 5, thing)

    def test_going_turn_by_turn(self):
        draw = random.Random(1)
        seen = {}
        for book in books(drawn_book, 250, 1) + books(drawn_book, 250, 2, True) + [k_book(), OPEN]:
            lengths = drawn_lengths(draw, book, 4)
            for bell in (draw.randint(0, 9), 9, 25):
                for many in (1, 2, 4, 8):
                    rooms = [draw.choice([0, 1, 2, 3, 4, 9]) for _ in range(book.gates())]
                    thing = drawn_sendings(draw, book, bell, many)
                    fault = plain_sent_fault(book, rooms, lengths, bell, thing)
                    self.assert_fault(fault, book, rooms, lengths, bell, thing)
                    seen[fault and fault[0]] = seen.get(fault and fault[0], 0) + 1
        for kind in (None, "late", "gate"):
            self.assertGreater(seen[kind], 200)

    def test_far_ones_as_near_ones(self):
        # Turns, lengths and the bell a million times as great, and spans that end just ahead of the next turn.
        draw = random.Random(2)
        far = 10 ** 8
        for book in books(drawn_book, 250, 3, True):
            lengths, bell = drawn_lengths(draw, book, 3), draw.randint(5, 15)
            rooms = [draw.randint(0, 4) for _ in range(book.gates())]
            near = drawn_sendings(draw, book, bell, 5)
            fault = plain_sent_fault(book, rooms, lengths, bell, near)
            wide = [(way, first * far, last * far + far - 1, rate) for way, first, last, rate in near]
            expected = ("gate", fault[1] * far, fault[2]) if fault and fault[0] == "gate" else fault
            self.assert_fault(expected, book, rooms, [length * far for length in lengths], bell * far + far - 1, wide)

    def test_spans_that_touch_and_overlap(self):
        book, great = Book(3, [[0, 1], [2, 1], [1]]), 10 ** 9
        rooms, lengths, bell = [2, 1, 2], [great, 5, great - 3], 10 ** 12
        first = (0, 0, 10 ** 11, 1)
        # The first way's gate 1 is entered from great to 10 ** 11 + great.
        after = 10 ** 11 + great + 1
        self.assert_fault(None, book, rooms, lengths, bell, [first, (2, after, bell - 5, 1)])
        self.assert_fault(("gate", after - 1, 1), book, rooms, lengths, bell, [first, (2, after - 1, bell - 5, 1)])
        self.assert_fault(None, book, rooms, lengths, bell, [(2, 0, great - 1, 1), first])
        self.assert_fault(("gate", great, 1), book, rooms, lengths, bell, [(2, 0, great, 1), first])
        # The second way is there three turns sooner.
        self.assert_fault(("gate", great, 1), book, rooms, lengths, bell, [first, (1, 3, 3, 1)])
        self.assert_fault(None, book, rooms, lengths, bell, [first, (1, 0, 2, 1)])
        self.assert_fault(None, book, rooms, lengths, bell, [first, (1, 10 ** 11 + 4, bell - great - 2, 1)])
        self.assert_fault(("late", 1), book, rooms, lengths, bell, [first, (1, 10 ** 11 + 4, bell - great - 1, 1)])
        self.assert_fault(("gate", 10 ** 11 + great, 1), book, rooms, lengths, bell,
                          [first, (1, 10 ** 11 + 3, bell - great - 2, 1)])

    def test_the_first_turn_then_the_first_gate(self):
        book = Book(3, [[2, 0], [1, 2], [0]])
        self.assert_fault(("gate", 0, 1), book, [0, 0, 0], [1, 1, 1], 9, [(0, 0, 0, 1), (1, 0, 0, 1)])
        self.assert_fault(("gate", 0, 2), book, [0, 0, 0], [1, 1, 1], 9, [(0, 0, 0, 1), (1, 1, 1, 1)])
        self.assert_fault(("gate", 0, 0), book, [0, 0, 0], [0, 0, 0], 9, [(0, 0, 0, 1), (1, 0, 0, 1)])
        self.assert_fault(("gate", 1, 0), book, [0, 1, 1], [1, 1, 1], 9, [(1, 3, 3, 2), (0, 0, 0, 1)])
        self.assert_fault(("gate", 3, 1), book, [1, 1, 1], [1, 1, 1], 9, [(1, 3, 3, 2), (0, 4, 4, 2)])
        # Turn by turn more: the second one begins as the first one still goes on.
        self.assert_fault(("gate", 7, 0), book, [3, 0, 0], [1, 1, 1], 20, [(2, 0, 9, 2), (2, 7, 8, 2)])
        self.assert_fault(("gate", 7, 0), book, [3, 0, 0], [1, 1, 1], 20, [(2, 7, 8, 2), (2, 0, 9, 2)])
        self.assert_fault(None, book, [4, 0, 0], [1, 1, 1], 20, [(2, 7, 8, 2), (2, 0, 9, 2)])
        self.assert_fault(None, book, [3, 0, 0], [1, 1, 1], 20, [(2, 0, 6, 2), (2, 7, 8, 2)])

    def test_lengths_of_0(self):
        book = Book(2, [[0, 1], [1, 0]])
        self.assert_fault(None, book, [2, 2], [0, 0], 0, [(0, 0, 0, 1), (1, 0, 0, 1)])
        self.assert_fault(("gate", 0, 1), book, [2, 1], [0, 0], 0, [(0, 0, 0, 1), (1, 0, 0, 1)])
        self.assert_fault(("late", 1), book, [2, 1], [0, 0], 0, [(0, 0, 0, 1), (1, 0, 1, 1)])
        self.assert_fault(None, book, [1, 1], [0, 1], 3, [(0, 0, 0, 1), (1, 1, 1, 1)])
        self.assert_fault(("gate", 2, 0), book, [1, 1], [0, 1], 3, [(0, 2, 2, 1), (1, 1, 1, 1)])

    def test_through_by_the_bell_at_the_latest(self):
        book = Book(2, [[0, 1]])
        self.assert_fault(None, book, [1, 1], [3, 4], 7, [(0, 0, 0, 1)])
        self.assert_fault(("late", 0), book, [1, 1], [3, 4], 6, [(0, 0, 0, 1)])
        great = 10 ** 12
        self.assert_fault(None, book, [1, 1], [10 ** 9] * 2, great, [(0, 0, great - 2 * 10 ** 9, 1)])
        self.assert_fault(("late", 0), book, [1, 1], [10 ** 9] * 2, great, [(0, 0, great - 2 * 10 ** 9 + 1, 1)])
        thing = [(0, 0, 0, 1), (0, 2, 2, 1), (0, 0, 3, 1), (0, 9, 9, 1)]
        self.assert_fault(("late", 2), book, [9, 9], [3, 4], 9, thing)

    def test_great_rates_and_twenty_sendings(self):
        book, great = Book(1, [[0]]), 10 ** 14
        many = [(0, turn, turn + 20, great) for turn in range(20)]
        self.assert_fault(None, book, [20 * great], [1], 10 ** 12, many)
        self.assert_fault(("gate", 19, 0), book, [20 * great - 1], [1], 10 ** 12, many)
        self.assert_fault(("gate", 3, 0), book, [4 * great - 1], [1], 10 ** 12, many[::-1])

    def test_any_object(self):
        for book in (k_book(), OPEN, Book(1, [[0]]), Book(3, []), Book(0, [])):
            for thing in any_objects() + [[part] for part in NO_QUADRUPLES]:
                for bell in (0, 7):
                    fault = plain_sent_fault(book, [1] * book.gates(), [1] * book.gates(), bell, thing)
                    self.assert_fault(fault, book, [1] * book.gates(), [1] * book.gates(), bell, thing)

    def test_form_ahead_of_late_ahead_of_gate(self):
        rooms, lengths = [0] * 3, [1] * 3
        late, full = (0, 8, 9, 1), (0, 0, 0, 9)
        for part in NO_QUADRUPLES + [(3, 0, 0, 1), [3, 0, 0, 1], (10 ** 30, 0, 0, 1)]:
            for thing in ([part], [late, part], [part, late], (full, late, part)):
                self.assert_fault(("form",), OPEN, rooms, lengths, 5, thing)
        self.assert_fault(("late", 1), OPEN, rooms, lengths, 5, [full, late, late])
        self.assert_fault(("gate", 0, 0), OPEN, rooms, lengths, 5, [full])

    def test_books_without_ways(self):
        for gates in range(3):
            book = Book(gates, [])
            self.assert_fault(None, book, [0] * gates, [0] * gates, 0, [])
            self.assert_fault(("form",), book, [9] * gates, [0] * gates, 9, [(0, 0, 0, 1)])

    def test_errors_in_order(self):
        wrong = (None, [1] * 8, [1] * 8 + [-1], [True] * 9)
        for rooms in wrong:
            with self.assertRaises(BadRooms) as caught:
                sent_fault(k_book(), rooms, None, -1, None)
            self.assertIs(caught.exception.rooms, rooms)
        for lengths in wrong:
            with self.assertRaises(BadLengths) as caught:
                sent_fault(k_book(), [1] * 9, lengths, -1, None)
            self.assertIs(caught.exception.lengths, lengths)
        for bell in (None, -1, True, "5", [5], 10 ** 13 - 10 ** 14, len, {}):
            with self.assertRaises(BadBell) as caught:
                sent_fault(k_book(), [1] * 9, K_LENGTHS, bell, None)
            self.assertIs(caught.exception.bell, bell)
        with self.assertRaises(BadBook):
            sent_fault(None, None, None, None, None)


class Sent(unittest.TestCase):

    def test_near_ones(self):
        draw = random.Random(3)
        for book in books(closed_book, 100, 4):
            told = drawn_sendings(draw, book, 9, draw.randint(0, 9))
            expected = 0
            for _, first, last, rate in told:
                for _ in range(first, last + 1):
                    expected += rate
            for thing in (told, as_tuples(told), [list(part) for part in told]):
                self.assertEqual(exactly(sent(thing)), exactly(expected))
            self.assertEqual(sent(sendings=told), expected)

    def test_edges(self):
        self.assertEqual(exactly(sent([])), exactly(0))
        self.assertEqual(exactly(sent(())), exactly(0))
        self.assertEqual(sent([(0, 0, 0, 1)]), 1)
        self.assertEqual(sent([(0, 0, 1, 1), (5, 0, 3, 1), (6, 0, 3, 1)]), 10)
        self.assertEqual(sent([(10 ** 30, 5, 5, 7), (0, 5, 5, 7), (0, 5, 5, 7)]), 21)
        self.assertEqual(sent([(0, 0, 10 ** 15, 10 ** 14)] * 20), 20 * (10 ** 15 + 1) * 10 ** 14)

    def test_bad_sendings(self):
        lists = [[part] for part in NO_QUADRUPLES] + [[(0, 0, 0, 1), part] for part in NO_QUADRUPLES]
        lists += [tuple([part, (0, 0, 0, 1)]) for part in NO_QUADRUPLES]
        objects = [thing for thing in any_objects() if thing not in ([], ())]
        for sendings in lists + objects + [(0, 0, 0, 1), [0, 0, 0, 1], k_book(), len]:
            for call in (lambda: sent(sendings), lambda: sent(sendings=sendings)):
                with self.assertRaises(BadSendings) as caught:
                    call()
                self.assertIs(caught.exception.sendings, sendings)


class GetsBy(unittest.TestCase):

    def assert_told(self, expected, book, lengths, bell, stretches):
        self.assertEqual(exactly(gets_by(book, lengths, bell, stretches)), exactly(expected))
        for told in (as_tuples(stretches), [list(pair) for pair in stretches]):
            self.assertEqual(exactly(gets_by(stretches=told, bell=bell, lengths=tuple(lengths), book=book)),
                             exactly(expected))

    def test_k(self):
        self.assert_told(None, k_book(), K_LENGTHS, 5, K_STRETCHES)
        stretches = list(K_STRETCHES)
        stretches[5] = (1, 3)
        self.assert_told((3, 3), k_book(), K_LENGTHS, 5, stretches)
        self.assert_told((0, 0), k_book(), K_LENGTHS, 5, [(0, 0)] * 9)
        self.assert_told(None, k_book(), K_LENGTHS, 1, [(0, 0)] * 9)
        self.assert_told((3, 0), k_book(), K_LENGTHS, 2, [(0, 0)] * 9)

    def test_going_turn_by_turn(self):
        draw = random.Random(4)
        seen, late = 0, 0
        for book in books(drawn_book, 400, 5) + books(drawn_book, 400, 6, True) + [k_book(), OPEN]:
            lengths = drawn_lengths(draw, book, 4)
            for bell in (draw.randint(0, 8), 8, 20):
                wide = draw.choice([3, 9, 20])
                stretches = [(draw.randint(0, 5), draw.choice([0, draw.randint(0, wide)])) for _ in range(book.gates())]
                expected = plain_gets_by(book, lengths, bell, stretches)
                self.assert_told(expected, book, lengths, bell, stretches)
                seen += expected is None
                late += expected is not None and expected[1] > 0
        self.assertGreater(seen, 200)
        self.assertGreater(late, 200)

    def test_far_ones_as_near_ones(self):
        # All a thousand million times as great: who gets by first begins as a stretch ends, or at turn 0.
        draw = random.Random(5)
        far = 10 ** 9
        for book in books(drawn_book, 300, 7):
            lengths, bell = drawn_lengths(draw, book, 3), draw.randint(3, 15)
            stretches = [(draw.randint(0, 6), draw.randint(0, 9)) for _ in range(book.gates())]
            expected = plain_gets_by(book, lengths, bell, stretches)
            wide = [(first * far, many * far) for first, many in stretches]
            self.assert_told(expected and (expected[0], expected[1] * far), book, [length * far for length in lengths],
                             bell * far, wide)

    def test_stretches_that_are_left_one_into_the_other(self):
        book, bell = Book(4, [[0, 1, 2, 3]]), 10 ** 12
        lengths = [10 ** 9, 0, 7, 1]
        gone = 10 ** 9
        stretches = [(5, 10 ** 11), (gone, 5), (gone + 10 ** 11 + 5, 2), (gone + 7 + 10 ** 11 + 8, 3)]
        # Begun at 0 it is stopped at gate 1, at 5 at gate 0, behind that at gate 2, and then no more.
        free = 10 ** 11 + 7
        self.assert_told((0, free), book, lengths, bell, stretches)
        stretches[3] = (gone + 7 + free, 10 ** 11)
        self.assert_told((0, free + 10 ** 11), book, lengths, bell, stretches)
        last = bell - gone - 8
        stretches[3] = (gone + 7 + free, last - free)
        self.assert_told((0, last), book, lengths, bell, stretches)
        stretches[3] = (gone + 7 + free, last - free + 1)
        self.assert_told(None, book, lengths, bell, stretches)

    def test_the_first_way_then_the_first_turn(self):
        book = Book(2, [[0], [1]])
        self.assert_told((0, 9), book, [1, 1], 10, [(0, 9), (0, 0)])
        self.assert_told((1, 0), book, [1, 1], 9, [(0, 9), (0, 0)])
        self.assert_told((1, 3), book, [1, 1], 9, [(0, 9), (0, 3)])
        self.assert_told((1, 0), book, [1, 1], 9, [(0, 9), (1, 3)])

    def test_shut_for_no_turn(self):
        self.assert_told((0, 0), Book(1, [[0]]), [0], 0, [(0, 0)])
        self.assert_told(None, Book(1, [[0]]), [0], 0, [(0, 1)])
        self.assert_told((0, 0), Book(1, [[0]]), [0], 0, [(1, 1)])
        self.assert_told(None, Book(1, [[0]]), [1], 0, [(0, 0)])
        self.assert_told((0, 1), Book(1, [[0]]), [1], 2, [(0, 1)])
        self.assert_told((0, 10 ** 12), Book(1, [[0]]), [0], 10 ** 12, [(0, 10 ** 12)])
        self.assert_told(None, Book(1, [[0]]), [0], 10 ** 12, [(0, 10 ** 15)])

    def test_lengths_of_0(self):
        # All gates of the way are entered at once.
        book = Book(3, [[2, 0, 1]])
        self.assert_told((0, 6), book, [0, 0, 0], 9, [(0, 2), (2, 2), (4, 2)])
        self.assert_told((0, 2), book, [0, 0, 0], 9, [(0, 2), (3, 2), (5, 2)])
        self.assert_told(None, book, [0, 0, 0], 5, [(0, 2), (2, 2), (4, 2)])

    def test_without_ways(self):
        for gates in range(3):
            self.assert_told(None, Book(gates, []), [0] * gates, 9, [(0, 0)] * gates)

    def test_bad_stretches(self):
        book = Book(2, [[0], [1]])
        for stretches in NO_STRETCHES:
            for call in (lambda: gets_by(book, [1, 1], 5, stretches),
                         lambda: gets_by(stretches=stretches, bell=5, lengths=[1, 1], book=book)):
                with self.assertRaises(BadStretches) as caught:
                    call()
                self.assertIs(caught.exception.stretches, stretches)

    def test_errors_in_order(self):
        for lengths in (None, [1] * 8, [1] * 8 + [-1], [True] * 9, "1" * 9):
            with self.assertRaises(BadLengths) as caught:
                gets_by(k_book(), lengths, -1, None)
            self.assertIs(caught.exception.lengths, lengths)
        for bell in (None, -1, True, "5", [5], len, {}):
            with self.assertRaises(BadBell) as caught:
                gets_by(k_book(), K_LENGTHS, bell, None)
            self.assertIs(caught.exception.bell, bell)
        with self.assertRaises(BadBook):
            gets_by(None, None, None, None)

    def test_one_list_changed_in_place_is_judged_anew(self):
        stretches = [list(pair) for pair in K_STRETCHES]
        self.assertIsNone(gets_by(k_book(), K_LENGTHS, 5, stretches))
        stretches[5][1] = 3
        self.assertEqual(gets_by(k_book(), K_LENGTHS, 5, stretches), (3, 3))
        stretches[5][1] = -3
        with self.assertRaises(BadStretches):
            gets_by(k_book(), K_LENGTHS, 5, stretches)
        sendings = [[3, 0, 3, 1]]
        self.assertIsNone(sent_fault(k_book(), [1] * 9, K_LENGTHS, 5, sendings))
        self.assertEqual(sent(sendings), 4)
        sendings[0][2] = 4
        self.assertEqual(sent_fault(k_book(), [1] * 9, K_LENGTHS, 5, sendings), ("late", 0))
        self.assertEqual(sent(sendings), 5)
        sendings[0][3] = 0
        self.assertEqual(sent_fault(k_book(), [1] * 9, K_LENGTHS, 5, sendings), ("form",))
        with self.assertRaises(BadSendings):
            sent(sendings)


if __name__ == "__main__":
    unittest.main()

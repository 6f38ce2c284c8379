"""Books drawn by a random source with a fixed start, so that each run of the tests draws the same ones."""

import random
from itertools import combinations, permutations

from tests.things import K_WAYS, all_rows, crossing_lot, first_lack, is_closed
from waysthatcross.books import Book


def web_rows(draw, places):
    """Return the rows of places, from the first place to the last, of a drawn web of roads."""
    share = draw.choice([0.5, 0.7, 0.9])
    roads = [pair for pair in permutations(range(places), 2) if draw.random() < share]
    trails, rows = [[0]], []
    for trail in trails:
        for begin, end in roads:
            if begin == trail[-1] and end not in trail:
                (rows if end == places - 1 else trails).append(trail + [end])
    return rows


def leap_rows(draw, things, many):
    """Return drawn rows of things, each with a begin and an end, and the leaps between those that meet."""
    inner = [draw.sample(range(things), draw.randint(1, things)) for _ in range(many)]
    begins = range(things, things + 2 * many, 2)
    rows = [[begin, *row, begin + 1] for begin, row in zip(begins, inner)]
    for one, other in permutations(range(many), 2):
        if set(inner[one]) & set(inner[other]):
            rows.append([begins[one], begins[other] + 1])
    return rows


def order_rows(draw, things):
    """Return the rows of things of a drawn order, each right ahead of the next, that no row goes beyond."""
    ahead = {pair for pair in combinations(range(things), 2) if draw.random() < 0.4}
    for between in range(things):
        ahead |= {(one, other) for one in range(between) for other in range(between + 1, things)
                  if (one, between) in ahead and (between, other) in ahead}
    next_to = {(one, other) for one, other in ahead
               if not any((one, between) in ahead and (between, other) in ahead for between in range(things))}
    trails = [[thing] for thing in range(things) if not any((other, thing) in ahead for other in range(thing))]
    for trail in trails:
        trails.extend([trail + [thing] for thing in range(things) if (trail[-1], thing) in next_to])
    return [trail for trail in trails if not any((trail[-1], thing) in ahead for thing in range(things))]


def rows_closed_up(draw, gates, many):
    """Return drawn rows, with further ones for the crossings that lack a way until none does."""
    rows = draw.sample(all_rows(gates), many)
    while True:
        gone = first_lack(rows)
        if gone is None:
            return rows
        one, gate, other = gone
        lot = sorted(crossing_lot(rows, one, gate, other))
        rows.append(draw.sample(lot, draw.randint(1, len(lot))))


def shuffled(draw, rows, gates):
    """Return a book of the rows in another order, with the gates called otherwise."""
    names = draw.sample(range(gates), gates)
    return Book(gates, [[names[gate] for gate in row] for row in draw.sample(rows, len(rows))])


def closed_book(draw, small=False):
    """Return a drawn closed book of one kind or another, sometimes with gates that are in no way."""
    kind = draw.randrange(5)
    if kind == 0:
        rows = web_rows(draw, draw.randint(3, 4) if small else draw.randint(3, 6))
    elif kind == 1:
        many = draw.randint(1, 2 if small else 3)
        rows = leap_rows(draw, draw.randint(1, (5 if small else 9) - 2 * many), many)
    elif kind == 2:
        rows = order_rows(draw, draw.randint(2, 4) if small else draw.randint(4, 8))
    elif kind == 3:
        rows = rows_closed_up(draw, draw.randint(2, 4), draw.randint(1, 4))
    elif draw.random() < 0.3:
        rows = []
    else:
        rows = leap_rows(draw, 1, 2) if small else K_WAYS
    used = max([gate for row in rows for gate in row], default=0) + 1
    book = shuffled(draw, rows[:30], min(9, used + draw.choice([0, 0, 1])))
    if not is_closed(book):
        return closed_book(draw, small)
    return book


def drawn_book(draw, small=False):
    """Return a closed book, or one with a way less, a way more, or a way in another order, closed or not."""
    book = closed_book(draw, small)
    rows, gates = book.ways(), book.gates()
    kind = draw.randrange(5)
    if kind == 1 and rows:
        del rows[draw.randrange(len(rows))]
    elif kind == 2:
        row = draw.sample(range(gates), draw.randint(1, gates))
        rows += [] if row in rows else [row]
    elif kind == 3 and rows:
        at = draw.randrange(len(rows))
        row = draw.sample(rows[at], len(rows[at]))
        rows[at] = rows[at] if row in rows else row
    elif kind == 4:
        rows = all_rows(min(gates, 4))
        rows = draw.sample(rows, min(len(rows), draw.randint(0, 4)))
    return Book(gates, rows)


def books(kind, many, start, small=False):
    """Return so many books of a kind that a random source with this start draws."""
    draw = random.Random(start)
    return [kind(draw, small) for _ in range(many)]


def drawn_rooms(draw, book, top):
    """Return rooms for a book, some of them 0."""
    return [draw.choice([0, draw.randint(0, top), draw.randint(0, top)]) for _ in range(book.gates())]

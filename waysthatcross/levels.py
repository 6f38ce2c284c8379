"""How many get through, for all bells at once."""

from waysthatcross.asked import ask_book, ask_lengths, ask_many, ask_rooms
from waysthatcross.crossings import ask_closed
from waysthatcross.tables import Table
from waysthatcross.timed import whole_length
from waysthatcross.worths import ways_needed


def levels(book, rooms, lengths):
    """Return the pairs (length, amount), ascending, by which so many get through by each bell.

    That many are the sum of amount times bell + 1 - length, over the pairs with a length of at most the bell.
    """
    ask_book(book)
    ask_rooms(book, rooms)
    ask_lengths(book, lengths)
    ask_closed(book)
    return _levels_of(book, rooms, lengths)


def least_bell(book, rooms, lengths, many):
    """Return the least bell by which so many get through, None if they never do."""
    ask_book(book)
    ask_rooms(book, rooms)
    ask_lengths(book, lengths)
    ask_many(many)
    ask_closed(book)
    if many == 0:
        return 0
    return _bell_for(_levels_of(book, rooms, lengths), many)


def _bell_for(pairs, many):
    """Return the least bell by which so many, one or more, get through by these levels, None if they never do."""
    each_turn = 0
    missed = 0
    bell = None
    for length, amount in pairs:
        # Only from its length on does a level count: what was enough by then is not bettered.
        if bell is not None and bell < length:
            return bell
        each_turn += amount
        missed += amount * length
        bell = (many + missed + each_turn - 1) // each_turn - 1
    return bell


def _levels_of(book, rooms, lengths):
    """Return the levels: as the bell rises, the lengths at which more go each turn, and how many more."""
    rows = [book.rows()[way] for way in ways_needed(book, [1] * len(book.rows()))]
    table = Table(rows, rooms, [[1] * len(rows), [-whole_length(lengths, row) for row in rows]])
    pairs = []
    each_turn = 0
    turns = (0, 1)
    while turns is not None:
        _settle(table, turns)
        many = table.worths[0][-1] // table.divisor
        if many > each_turn:
            pairs.append((turns[0] // turns[1], many - each_turn))
            each_turn = many
        turns = _next_turns(table)
    return pairs


def _settle(table, turns):
    """Exchange until no plan is dearer if just more than so many turns, a fraction, are there."""
    column = _column_to_raise(table, turns)
    while column is not None:
        table.exchange(table.line_for(column), column)
        column = _column_to_raise(table, turns)


def _column_to_raise(table, turns):
    """Return the column of least name by which the worth rises, None if there is none."""
    top, bottom = turns
    best = None
    for column, name in enumerate(table.of_columns):
        count, length = table.worths[0][column], table.worths[1][column]
        worth = count * top + length * bottom
        if worth < 0 or (worth == 0 and count < 0):
            if best is None or name < table.of_columns[best]:
                best = column
    return best


def _next_turns(table):
    """Return the next number of turns, as a fraction, from which on another plan is dearer, None if none is."""
    best = None
    for count, length in zip(table.worths[0][:-1], table.worths[1][:-1]):
        if count < 0 and (best is None or length * best[1] < best[0] * -count):
            best = (length, -count)
    return best

"""Dearest plans of closed books and tolls that cost as much, where the gains fit."""

from waysthatcross.lots import has_all, ways_as_bits
from waysthatcross.tables import Table


def greatest_gain(book, rooms, gains):
    """Return the greatest gain of a plan that fits."""
    table = _dearest_table(book.rows(), rooms, gains, ways_needed(book, gains))
    return table.worths[0][-1] // table.divisor


def tolls_of(book, rooms, gains):
    """Return tolls that pay and cost the greatest gain of a plan that fits."""
    needed = ways_needed(book, gains)
    return _tolls_in(_dearest_table(book.rows(), rooms, gains, needed), len(needed), len(rooms))


def plan_with(book, rooms, gains):
    """Return a plan that fits with the greatest gain."""
    rows, needed = book.rows(), ways_needed(book, gains)
    table = _dearest_table(rows, rooms, gains, needed)
    numbers = table.numbers(len(needed))
    plan = [0] * len(rows)
    for way, number in zip(needed, numbers):
        plan[way] = number // table.divisor
    if any([number % table.divisor > 0 for number in numbers]):
        tolls = _tolls_in(table, len(needed), len(rooms))
        # By these tolls all dearest plans go only ways that gain just their tolls.
        just = [way for way in needed if sum([tolls[gate] for gate in rows[way]]) == gains[way]]
        for way in _filling(rows, just, _left(rows, plan, rooms), tolls, {}):
            plan[way] += 1
    return plan


def ways_needed(book, gains):
    """Return the ways with gains above 0, but for those for which another one, with no other gates, is as good."""
    inside = _ways_inside(book)
    return [way for way, worth in enumerate(gains) if worth > 0 and not _is_needless(way, inside[way], gains)]


def _is_needless(way, inside, gains):
    for other, is_first in inside:
        if gains[other] > gains[way] or (is_first and gains[other] == gains[way]):
            return True
    return False


def _ways_inside(book):
    """Return, by ways, the pairs of each other way with no other gates and whether it is, of the two, the first choice.

    It is if it has fewer gates, or just the same ones and stands ahead.
    """
    kept = book.found("inside")
    if kept is None:
        ways = ways_as_bits(book)
        kept = book.keep("inside", [
            [(other, bits != way or other < number) for other, bits in enumerate(ways)
             if other != number and has_all(way, bits)] for number, way in enumerate(ways)])
    return kept


def _dearest_table(rows, rooms, gains, needed):
    """Return the table of these ways in which no other plan that fits gains more."""
    table = Table([rows[way] for way in needed], rooms, [[gains[way] for way in needed]])
    stalls = False
    column = _column_to_raise(table, stalls)
    while column is not None:
        at = table.line_for(column)
        stalls = table.lines[at][-1] == 0
        table.exchange(at, column)
        column = _column_to_raise(table, stalls)
    return table


def _column_to_raise(table, stalls):
    """Return a column by which the worth rises, None if there is none."""
    worths = table.worths[0][:-1]
    if stalls:
        # Where nothing is gained, only the least names lead out of the circle.
        rising = [(name, column) for column, name in enumerate(table.of_columns) if worths[column] < 0]
        return min(rising)[1] if len(rising) > 0 else None
    least = min(worths, default=0)
    return worths.index(least) if least < 0 else None


def _tolls_in(table, many, gates):
    """Return what one room less would cost at each gate, which is whole for gains that fit."""
    tolls = [0] * gates
    for name, worth in zip(table.of_columns, table.worths[0]):
        if name >= many:
            tolls[name - many] = worth // table.divisor
    return tolls


def _left(rows, plan, rooms):
    """Return the rooms that a plan leaves."""
    left = list(rooms)
    for row, many in zip(rows, plan):
        for gate in row:
            left[gate] -= many
    return left


def _filling(rows, ways, left, tolls, failed):
    """Return ways, as often as each is to be gone, that just fill the gates with tolls, None if there are none."""
    open_gates = [gate for gate, toll in enumerate(tolls) if toll > 0 and left[gate] > 0]
    if len(open_gates) == 0:
        return []
    state = tuple(left)
    if state not in failed:
        for way in ways:
            row = rows[way]
            if open_gates[0] in row and min([left[gate] for gate in row]) > 0:
                less = [room - 1 if gate in row else room for gate, room in enumerate(left)]
                rest = _filling(rows, ways, less, tolls, failed)
                if rest is not None:
                    return [way] + rest
        failed[state] = True
    return None

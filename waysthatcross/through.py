"""The most that get through by a bell, and the stretches by which nobody else does."""

from waysthatcross.asked import ask_bell, ask_book, ask_lengths, ask_rooms, ask_tolls
from waysthatcross.crossings import ask_closed
from waysthatcross.timed import offsets, whole_length
from waysthatcross.worths import greatest_gain, plan_with, tolls_of


def through(book, rooms, lengths, bell):
    """Return the most that can begin and be through by the bell, which is the least cost of stretches."""
    _ask_all(book, rooms, lengths, bell)
    return greatest_gain(book, rooms, _turns(book, lengths, bell))


def best_sendings(book, rooms, lengths, bell):
    """Return sendings of as many as can be through by the bell."""
    _ask_all(book, rooms, lengths, bell)
    turns = _turns(book, lengths, bell)
    plan = plan_with(book, rooms, turns)
    # Again at each turn as long as it is through by the bell: a way that is gone has one turn or more.
    return [(way, 0, turns[way] - 1, rate) for way, rate in enumerate(plan) if rate > 0]


def labels(book, lengths, tolls):
    """Return the list, by gates, of the least sum of lengths and tolls ahead of it on a way, 0 if no way has it."""
    ask_book(book)
    ask_lengths(book, lengths)
    ask_tolls(book, tolls)
    return _labels_of(book, lengths, tolls)


def best_stretches(book, rooms, lengths, bell):
    """Return stretches by which nobody gets by, at the least cost."""
    _ask_all(book, rooms, lengths, bell)
    tolls = tolls_of(book, rooms, _turns(book, lengths, bell))
    return list(zip(_labels_of(book, lengths, tolls), tolls))


def _ask_all(book, rooms, lengths, bell):
    ask_book(book)
    ask_rooms(book, rooms)
    ask_lengths(book, lengths)
    ask_bell(bell)
    ask_closed(book)


def _turns(book, lengths, bell):
    """Return, by ways, at how many turns who begins it is through by the bell; below 0 if it is longer: they fit."""
    return [bell + 1 - whole_length(lengths, row) for row in book.rows()]


def _labels_of(book, lengths, tolls):
    both = [length + toll for length, toll in zip(lengths, tolls)]
    least = {}
    for row in book.rows():
        for gate, ahead in offsets(both, row):
            least[gate] = min(ahead, least.get(gate, ahead))
    return [least.get(gate, 0) for gate in range(book.gates())]

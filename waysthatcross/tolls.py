"""Tolls at gates, and what the dearest plan gains, which is what the best tolls cost."""

from waysthatcross.asked import ask_book, ask_gains, ask_rooms, ask_tolls
from waysthatcross.crossings import ask_closed
from waysthatcross.gains import ask_fit
from waysthatcross.kinds import is_numbers
from waysthatcross.worths import greatest_gain, plan_with, tolls_of


def toll_fault(book, gains, thing):
    """Return None for tolls that pay, ("form",) for no tolls, else ("way", way) with the first way not paid."""
    ask_book(book)
    ask_gains(book, gains)
    if not is_numbers(thing, book.gates()):
        return ("form",)
    for way, row in enumerate(book.rows()):
        if sum([thing[gate] for gate in row]) < gains[way]:
            return ("way", way)
    return None


def cost(book, rooms, tolls):
    """Return the sum, over the gates, of room times toll."""
    ask_book(book)
    ask_rooms(book, rooms)
    ask_tolls(book, tolls)
    return sum([room * toll for room, toll in zip(rooms, tolls)])


def dearest(book, rooms, gains):
    """Return the greatest gain of a plan that fits, which is the least cost of tolls that pay."""
    _ask_all(book, rooms, gains)
    return greatest_gain(book, rooms, gains)


def dearest_plan(book, rooms, gains):
    """Return a plan that fits with the greatest gain."""
    _ask_all(book, rooms, gains)
    return plan_with(book, rooms, gains)


def best_tolls(book, rooms, gains):
    """Return tolls that pay with the least cost."""
    _ask_all(book, rooms, gains)
    return tolls_of(book, rooms, gains)


def _ask_all(book, rooms, gains):
    ask_book(book)
    ask_rooms(book, rooms)
    ask_gains(book, gains)
    ask_closed(book)
    ask_fit(book, gains)

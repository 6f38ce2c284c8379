"""Gains of ways, and whether crossing lessens them."""

from waysthatcross.asked import ask_book, ask_gains, ask_plan
from waysthatcross.crossings import ask_closed, meetings
from waysthatcross.errors import Loses


def loses(book, gains):
    """Return the first triple (one, gate, other) by which gains of a closed book do not fit, None if they fit."""
    ask_book(book)
    ask_gains(book, gains)
    ask_closed(book)
    return first_losing(book, gains)


def first_losing(book, gains):
    """Return the first triple (one, gate, other) by which gains do not fit, None if they fit."""
    told, withins = meetings(book)
    bests = [max([0] + [gains[way] for way in within]) for within in withins]
    # What a crossing loses, the crossing back does: one is the lesser one in the first triple.
    for one, gate, other, there, back in told:
        if gains[one] > 0 and gains[other] > 0 and bests[there] + bests[back] < gains[one] + gains[other]:
            return (one, gate, other)
    return None


def ask_fit(book, gains):
    """Raise Loses for gains of a closed book that do not fit."""
    triple = first_losing(book, gains)
    if triple is not None:
        one, gate, other = triple
        raise Loses(one, gate, other)


def gain(book, gains, plan):
    """Return the sum, over the ways, of how many go it times its gain."""
    ask_book(book)
    ask_gains(book, gains)
    ask_plan(book, plan)
    return sum([many * worth for many, worth in zip(plan, gains)])

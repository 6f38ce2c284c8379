"""Raises the errors for arguments that are not what is asked."""

from waysthatcross.books import Book
from waysthatcross.errors import (BadBell, BadBook, BadGains, BadGate, BadLengths, BadLot, BadMany, BadPlan, BadRooms,
                                  BadTolls)
from waysthatcross.kinds import is_below, is_integers, is_number, is_numbers, is_row_below


def ask_book(thing):
    """Raise BadBook for a thing that is no Book."""
    if not isinstance(thing, Book):
        raise BadBook(thing)


def ask_gate(book, gate):
    """Raise BadGate for what is no gate of the book."""
    if not is_below(gate, book.gates()):
        raise BadGate(gate)


def ask_lot(book, lot):
    """Raise BadLot for what is no lot of the book's gates."""
    if not is_row_below(lot, book.gates()):
        raise BadLot(lot)


def ask_rooms(book, rooms):
    """Raise BadRooms for what are no rooms of the book's gates."""
    if not is_numbers(rooms, book.gates()):
        raise BadRooms(rooms)


def ask_rooms_from_one(book, rooms):
    """Raise BadRooms for what are no rooms of the book's gates, from 1 on each."""
    if not is_numbers(rooms, book.gates()) or 0 in rooms:
        raise BadRooms(rooms)


def ask_plan(book, plan):
    """Raise BadPlan for what is no plan of the book's ways."""
    if not is_numbers(plan, len(book.rows())):
        raise BadPlan(plan)


def ask_many(many):
    """Raise BadMany for what is no number."""
    if not is_number(many):
        raise BadMany(many)


def ask_gains(book, gains):
    """Raise BadGains for what are no gains of the book's ways."""
    if not is_integers(gains, len(book.rows())):
        raise BadGains(gains)


def ask_tolls(book, tolls):
    """Raise BadTolls for what are no tolls of the book's gates."""
    if not is_numbers(tolls, book.gates()):
        raise BadTolls(tolls)


def ask_lengths(book, lengths):
    """Raise BadLengths for what are no lengths of the book's gates."""
    if not is_numbers(lengths, book.gates()):
        raise BadLengths(lengths)


def ask_bell(bell):
    """Raise BadBell for a bell that is no number."""
    if not is_number(bell):
        raise BadBell(bell)

"""Ways gone over time: sendings, and stretches for which gates are shut."""

from waysthatcross.asked import ask_bell, ask_book, ask_lengths, ask_rooms
from waysthatcross.errors import BadSendings, BadStretches
from waysthatcross.kinds import is_pairs, is_sendings


def sent_fault(book, rooms, lengths, bell, thing):
    """Return None for sendings through by the bell and nowhere too many, else a tuple that tells what is wrong.

    It is ("form",) for no sendings, ("late", index) with the first one through too late, or ("gate", turn, gate) with
    the first turn at which too many enter a gate, and the first such gate.
    """
    ask_book(book)
    ask_rooms(book, rooms)
    ask_lengths(book, lengths)
    ask_bell(bell)
    rows = book.rows()
    if not is_sendings(thing) or not all([way < len(rows) for way, _, _, _ in thing]):
        return ("form",)
    for index, (way, _, last, _) in enumerate(thing):
        if last + whole_length(lengths, rows[way]) > bell:
            return ("late", index)
    full = _first_too_full(_spans_at_gates(rows, lengths, thing), rooms)
    if full is None:
        return None
    turn, gate = full
    return ("gate", turn, gate)


def whole_length(lengths, row):
    """Return all lengths of a row's gates together."""
    return sum([lengths[gate] for gate in row])


def offsets(lengths, row):
    """Return the pairs of a gate and how many turns behind the begin it is entered."""
    ahead = 0
    pairs = []
    for gate in row:
        pairs.append((gate, ahead))
        ahead += lengths[gate]
    return pairs


def _spans_at_gates(rows, lengths, sendings):
    """Return, by gates, the spans (first, last, rate) of turns at which so many enter."""
    spans = [[] for _ in lengths]
    for way, first, last, rate in sendings:
        for gate, ahead in offsets(lengths, rows[way]):
            spans[gate].append((first + ahead, last + ahead, rate))
    return spans


def _first_too_full(spans, rooms):
    """Return the first pair of a turn and a gate that more than its room enter then, None if there is none."""
    # So many enter only as some span begins: before it there are no more.
    return min([(turn, gate) for gate, told in enumerate(spans) for turn, _, _ in told
                if _entering(told, turn) > rooms[gate]], default=None)


def _entering(spans, turn):
    return sum([rate for first, last, rate in spans if first <= turn <= last])


def sent(sendings):
    """Return how many begin in all."""
    if not is_sendings(sendings):
        raise BadSendings(sendings)
    return sum([(last - first + 1) * rate for _, first, last, rate in sendings])


def gets_by(book, lengths, bell, stretches):
    """Return the first pair (way, begin) that is through by the bell and nowhere stopped, None if there is none."""
    ask_book(book)
    ask_lengths(book, lengths)
    ask_bell(bell)
    if not is_pairs(stretches, book.gates()):
        raise BadStretches(stretches)
    for way, row in enumerate(book.rows()):
        begin = _first_begin(offsets(lengths, row), stretches)
        if begin + whole_length(lengths, row) <= bell:
            return (way, begin)
    return None


def _first_begin(entered, stretches):
    """Return the first turn to begin at so that no gate is entered while it is shut."""
    begin = 0
    # Ascending by their firsts each span of begins that are stopped is either over, or is left at its end.
    for first, behind in sorted([_stopped(stretches[gate], ahead) for gate, ahead in entered]):
        if first <= begin < behind:
            begin = behind
    return begin


def _stopped(stretch, ahead):
    """Return the first begin that enters a gate while it is shut, so many turns behind, and the first one later."""
    first, many = stretch
    return (first - ahead, first + many - ahead)

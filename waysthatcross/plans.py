"""Plans: how many go each way, and the most that can."""

from waysthatcross.asked import ask_book, ask_gate, ask_many, ask_plan, ask_rooms
from waysthatcross.crossings import ask_closed
from waysthatcross.cuts import kept_cuts
from waysthatcross.kinds import is_numbers
from waysthatcross.lots import least_room_in, room_in


def loads(book, plan):
    """Return the list, by gates, of how many go through."""
    ask_book(book)
    ask_plan(book, plan)
    sums = [0] * book.gates()
    for row, many in zip(book.rows(), plan):
        for gate in row:
            sums[gate] += many
    return sums


def plan_fault(book, rooms, thing):
    """Return None for a plan that fits, ("form",) for no plan, else ("gate", gate) with the first gate too full."""
    ask_book(book)
    ask_rooms(book, rooms)
    if not is_numbers(thing, len(book.rows())):
        return ("form",)
    for gate, many in enumerate(loads(book, thing)):
        if many > rooms[gate]:
            return ("gate", gate)
    return None


def most(book, rooms):
    """Return the greatest sum of a plan of a closed book that fits, which is the least room of a cut."""
    ask_book(book)
    ask_rooms(book, rooms)
    ask_closed(book)
    return least_room_in(rooms, kept_cuts(book))


def plan_of(book, rooms, many):
    """Return a plan of a closed book that fits with just so many in all, None if there is none."""
    ask_book(book)
    ask_rooms(book, rooms)
    ask_many(many)
    ask_closed(book)
    plan = best_plan(book, rooms)
    if many > sum(plan):
        return None
    return _lessened(plan, many)


def best_plan(book, rooms):
    """Return a plan of a closed book with the most, found way by way."""
    left = list(rooms)
    sums = [room_in(rooms, cut) for cut in kept_cuts(book)]
    least = min(sums)
    plan = []
    for row, shares in zip(book.rows(), _shares(book)):
        # A cut with one gate of the way falls just as fast as is wanted; one with more must not fall below that.
        bounds = [(room - least) // (share - 1) for room, share in zip(sums, shares) if share > 1]
        times = min([left[gate] for gate in row] + bounds)
        if times > 0:
            for gate in row:
                left[gate] -= times
            sums = [room - times * share for room, share in zip(sums, shares)]
            least -= times
        plan.append(times)
    return plan


def _shares(book):
    """Return, by ways, the lists of how many gates of the way each small cut has."""
    kept = book.found("shares")
    if kept is None:
        cuts = kept_cuts(book)
        numbers = {}
        for number, cut in enumerate(cuts):
            for gate in cut:
                numbers.setdefault(gate, []).append(number)
        kept = book.keep("shares", [_counts([numbers.get(gate, []) for gate in row], len(cuts)) for row in book.rows()])
    return kept


def _counts(lists, many):
    """Return how often each of so many numbers stands in the lists."""
    counts = [0] * many
    for numbers in lists:
        for number in numbers:
            counts[number] += 1
    return counts


def _lessened(plan, many):
    """Return a plan with just so many in all, none more on any way than in this one, which has no fewer."""
    kept = []
    for times in plan:
        taken = min(times, many - sum(kept))
        kept.append(taken)
    return kept


def by_room(book, rooms, gate):
    """Return the pair of the most of a closed book with no room at the gate and the least room of a cut without it."""
    ask_book(book)
    ask_rooms(book, rooms)
    ask_gate(book, gate)
    ask_closed(book)
    cuts = kept_cuts(book)
    shut = list(rooms)
    shut[gate] = 0
    return (least_room_in(shut, cuts), least_room_in(rooms, [cut for cut in cuts if gate not in cut]))

"""Books made of webs of roads, of orders, and of rows with leaps between them."""

from waysthatcross.books import Book
from waysthatcross.errors import BadBegins, BadEnds, BadMany, BadPairs, BadPlaces, BadRoads, BadRows
from waysthatcross.kinds import is_list, is_number, is_pair_below, is_row_below


def of_roads(places, roads, begins, ends):
    """Return the book whose gates are roads, and whose ways lead by them from a begin to an end."""
    _ask_web(places, roads, begins, ends)
    return Book(len(roads), sorted(_trails(roads, begins, ends)))


def of_places(places, roads, begins, ends):
    """Return the book whose gates are places, and whose ways lead by them from a begin to an end."""
    _ask_web(places, roads, begins, ends)
    rows = {}
    for trail in _trails(roads, begins, ends):
        # Alike roads make alike rows of places.
        rows[tuple([roads[trail[0]][0]] + [roads[road][1] for road in trail])] = True
    return Book(places, sorted(rows))


def _ask_web(places, roads, begins, ends):
    if not is_number(places):
        raise BadPlaces(places)
    wrong = _first_wrong(roads, lambda road: is_pair_below(road, places))
    if wrong is not None:
        raise BadRoads(wrong)
    if not is_row_below(begins, places):
        raise BadBegins(begins)
    if not is_row_below(ends, places) or any([place in begins for place in ends]):
        raise BadEnds(ends)


def _first_wrong(things, is_right):
    """Return the index of the first thing that is not right, 0 for no list, None if all are right."""
    if not is_list(things):
        return 0
    for index, thing in enumerate(things):
        if not is_right(thing):
            return index
    return None


def _trails(roads, begins, ends):
    """Return the rows of roads that lead from a begin to an end, with no place twice."""
    told = []
    trails = [([], [place]) for place in begins]
    while len(trails) > 0:
        row, places = trails.pop()
        if places[-1] in ends:
            told.append(row)
        for road, (begin, end) in enumerate(roads):
            if begin == places[-1] and end not in places:
                trails.append((row + [road], places + [end]))
    return told


def of_order(many, pairs):
    """Return the book whose gates are things, and whose ways are the rows of things each right ahead of the next."""
    _ask_many(many)
    wrong = _first_wrong(pairs, lambda pair: is_pair_below(pair, many) and pair[0] < pair[1])
    if wrong is not None:
        raise BadPairs(wrong)
    later = _all_later(many, pairs)
    told = []
    trails = [[thing] for thing in range(many) if not any([thing in things for things in later])]
    while len(trails) > 0:
        trail = trails.pop()
        things = later[trail[-1]]
        if len(things) == 0:
            told.append(trail)
        trails.extend([trail + [thing] for thing in things if not any([thing in later[other] for other in things])])
    return Book(many, sorted(told))


def _ask_many(many):
    if not is_number(many):
        raise BadMany(many)


def _all_later(many, pairs):
    """Return, by things, a dict of all things that it is ahead of, by these pairs or by others between."""
    later = [{} for _ in range(many)]
    for thing in reversed(range(many)):
        for one, other in pairs:
            if one == thing:
                later[thing][other] = True
                later[thing].update(later[other])
    return later


def of_leaps(many, rows):
    """Return the book of rows of things, each with a gate to begin and one to end, and of the leaps between them."""
    _ask_many(many)
    wrong = _first_wrong(rows, lambda row: is_row_below(row, many))
    if wrong is not None:
        raise BadRows(wrong)
    begins = [many + 2 * number for number in range(len(rows))]
    ways = [[begin, *row, begin + 1] for begin, row in zip(begins, rows)]
    for begin, row in zip(begins, rows):
        for other, things in zip(begins, rows):
            if other != begin and any([thing in things for thing in row]):
                ways.append([begin, other + 1])
    return Book(many + 2 * len(rows), ways)

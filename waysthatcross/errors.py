"""The errors of the package: each keeps the very objects that it is made with."""


class CrossError(ValueError):
    """What all errors of the package are."""


class BadBook(CrossError):
    """Raised where a Book is asked, and this is none."""

    def __init__(self, thing):
        self.thing = thing


class BadGates(CrossError):
    """Raised for a count of gates that is no number."""

    def __init__(self, gates):
        self.gates = gates


class BadWays(CrossError):
    """Raised for ways of which the one at index is no row, or stood before."""

    def __init__(self, index):
        self.index = index


class BadLot(CrossError):
    """Raised for what is no list of unlike gates."""

    def __init__(self, lot):
        self.lot = lot


class BadWay(CrossError):
    """Raised for what is no way's number."""

    def __init__(self, way):
        self.way = way


class BadGate(CrossError):
    """Raised for what is no gate of the book, or of the ways in question."""

    def __init__(self, gate):
        self.gate = gate


class NotClosed(CrossError):
    """Raised where a closed book is asked, with the first crossing that lacks a way."""

    def __init__(self, one, gate, other):
        self.one = one
        self.gate = gate
        self.other = other


class BadRooms(CrossError):
    """Raised for what is no list of rooms."""

    def __init__(self, rooms):
        self.rooms = rooms


class BadPlan(CrossError):
    """Raised for what is no plan."""

    def __init__(self, plan):
        self.plan = plan


class BadMany(CrossError):
    """Raised for a count that is no number."""

    def __init__(self, many):
        self.many = many


class BadCut(CrossError):
    """Raised where a least cut is asked, and this is none."""

    def __init__(self, cut):
        self.cut = cut


class BadGains(CrossError):
    """Raised for what is no list of gains."""

    def __init__(self, gains):
        self.gains = gains


class Loses(CrossError):
    """Raised where gains that fit are asked, with the first crossing that loses."""

    def __init__(self, one, gate, other):
        self.one = one
        self.gate = gate
        self.other = other


class BadTolls(CrossError):
    """Raised for what is no list of tolls."""

    def __init__(self, tolls):
        self.tolls = tolls


class BadLengths(CrossError):
    """Raised for what is no list of lengths."""

    def __init__(self, lengths):
        self.lengths = lengths


class BadBell(CrossError):
    """Raised for a bell that is no number."""

    def __init__(self, bell):
        self.bell = bell


class BadSendings(CrossError):
    """Raised for what is no list of sendings."""

    def __init__(self, sendings):
        self.sendings = sendings


class BadStretches(CrossError):
    """Raised for what is no list of stretches."""

    def __init__(self, stretches):
        self.stretches = stretches


class Alone(CrossError):
    """Raised where a gate is taken off the ways, and this way has no other one."""

    def __init__(self, way):
        self.way = way


class BadPlaces(CrossError):
    """Raised for a count of places that is no number."""

    def __init__(self, places):
        self.places = places


class BadRoads(CrossError):
    """Raised for roads of which the one at index is no pair of unlike places."""

    def __init__(self, index):
        self.index = index


class BadBegins(CrossError):
    """Raised for begins that are no list of unlike places."""

    def __init__(self, begins):
        self.begins = begins


class BadEnds(CrossError):
    """Raised for ends that are no list of unlike places, or have a place of the begins."""

    def __init__(self, ends):
        self.ends = ends


class BadPairs(CrossError):
    """Raised for pairs of which the one at index is no pair of things."""

    def __init__(self, index):
        self.index = index


class BadRows(CrossError):
    """Raised for rows of which the one at index is no row of things."""

    def __init__(self, index):
        self.index = index


class BadTop(CrossError):
    """Raised for a top that is no number."""

    def __init__(self, top):
        self.top = top

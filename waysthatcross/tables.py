"""Tables of ways and rooms, whose lines and columns are exchanged."""


class Table:
    """How many go each way and how much is left of each room, the ones told by the others.

    Ways have their indexes as names, the room left at a gate has the gate and the number of ways. A name that has a
    column may be any number; one that has a line is the line's last number less the sum of its others, each times what
    its column's name is, divided by one divisor for all. So is each worth: that of a plan times what a way is worth.
    All numbers are whole, since each is a determinant of some of those at the beginning.
    """

    def __init__(self, rows, rooms, worths):
        many = len(rows)
        self.divisor = 1
        self.lines = [[1 if gate in row else 0 for row in rows] + [room] for gate, room in enumerate(rooms)]
        self.worths = [[-worth for worth in line] + [0] for line in worths]
        self.of_lines = [many + gate for gate in range(len(rooms))]
        self.of_columns = list(range(many))

    def line_for(self, column):
        """Return the line that is 0 first as the column's name becomes greater, of several that of the least name."""
        best = None
        for at, line in enumerate(self.lines):
            if line[column] > 0 and (best is None or self._is_ahead(at, best, column)):
                best = at
        return best

    def _is_ahead(self, at, best, column):
        line, other = self.lines[at], self.lines[best]
        first, second = line[-1] * other[column], other[-1] * line[column]
        return first < second or (first == second and self.of_lines[at] < self.of_lines[best])

    def exchange(self, at, column):
        """Give the name of the line the column, and that of the column the line."""
        chosen, old = self.lines[at], self.divisor
        self.worths = [_without(line, chosen, column, old) for line in self.worths]
        lines = [_without(line, chosen, column, old) for line in self.lines]
        lines[at] = list(chosen)
        lines[at][column] = old
        self.lines = lines
        self.divisor = chosen[column]
        self.of_lines[at], self.of_columns[column] = self.of_columns[column], self.of_lines[at]

    def numbers(self, many):
        """Return what the first names are, times the divisor."""
        told = [0] * many
        for name, line in zip(self.of_lines, self.lines):
            if name < many:
                told[name] = line[-1]
        return told


def _without(line, chosen, column, old):
    """Return a line with the name of the chosen line in the place of that of the column, over the new divisor."""
    part, factor = chosen[column], line[column]
    if factor == 0 and part == old:
        return line
    if part == 1 and old == 1:
        told = [number - factor * other for number, other in zip(line, chosen)]
    else:
        told = [(number * part - factor * other) // old for number, other in zip(line, chosen)]
    told[column] = -factor
    return told

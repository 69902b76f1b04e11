"""Some lines of a table that are held, and the inverse of what is left of the table by them."""


def dot(one, other):
    return sum([left * right for left, right in zip(one, other)])


class Holding:
    """Held lines of a table, a list of lists of whole numbers with as many lines as columns.

    What the held lines have in the held columns has an inverse: it is kept as whole numbers over the
    determinant. Where a line is held or let go, both come from the old ones, and each // leaves no rest.
    """

    def __init__(self, table):
        self.table = table
        self.held = []
        self.inverse = []
        self.determinant = 1

    def hold(self, at):
        """Holds one more line, which must not hang on the held ones."""
        old = self.determinant
        column = [self.table[each][at] for each in self.held]
        down = [dot(line, column) for line in self.inverse]
        ahead = [self.table[at][each] for each in self.held]
        right = [dot(ahead, [line[place] for line in self.inverse]) for place in range(len(self.held))]
        new = self.table[at][at] * old - dot(ahead, down)
        inner = [[(new * part + left * up) // old for part, up in zip(line, right)]
                 for line, left in zip(self.inverse, down)]
        self.inverse = [line + [-left] for line, left in zip(inner, down)] + [[-up for up in right] + [old]]
        self.determinant = new
        self.held.append(at)

    def let_go(self, place):
        """Lets go the line that is held at a place among the held ones."""
        old = self.determinant
        new = self.inverse[place][place]
        gone = self.inverse[place]
        kept = [line for at, line in enumerate(self.inverse) if at != place]
        inner = [[(new * part - line[place] * up) // old for part, up in zip(line, gone)] for line in kept]
        self.inverse = [line[:place] + line[place + 1:] for line in inner]
        self.determinant = new
        self.held = self.held[:place] + self.held[place + 1:]

    def solved(self, aims):
        """Whole numbers for the held columns, over the determinant, by which each held line comes to its aim."""
        due = [aims[at] for at in self.held]
        return [dot(line, due) for line in self.inverse]

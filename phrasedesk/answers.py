"""What is told of a tongue, of old ones and of a tale, each able to say whether it is so."""

from phrasedesk.rules import chain_up, copied, first_wrong_line, is_number, is_put_anew, rounds_needed


class Answer:
    """Above all answers of the package."""


class Fresh(Answer):
    """A tongue is not broken, nor one above it."""

    def shows(self, froms, row, tongue):
        """Whether the tongue is fresh in this row."""
        return chain_up(froms, row, tongue) is None


class Old(Answer):
    """A tongue is old, with the chain from it up to the first broken one."""

    def __init__(self, chain):
        self.chain = copied(chain)

    def shows(self, froms, row, tongue):
        """Whether the tongue is old in this row, with just this chain."""
        chain = chain_up(froms, row, tongue)
        if chain is None or self.chain != chain:
            return False
        # True would have passed for 1 so far.
        return all([is_number(at) for at in self.chain])


class Rounds(Answer):
    """Old ones put anew in rows, with a depth that shows that there are no fewer."""

    def __init__(self, rows, depth):
        self.rows = copied(rows)
        self.depth = depth

    def shows(self, froms, old, hands):
        """Whether the rows put all old ones anew by so many hands, and the depth needs as many rounds."""
        if not is_number(self.depth) or self.depth < 0 or not is_put_anew(froms, old, hands, self.rows):
            return False
        return len(self.rows) == rounds_needed(froms, old, hands, self.depth)


class Right(Answer):
    """A desk can have the tale."""

    def shows(self, froms, tale):
        """Whether every line of the tale can come."""
        return first_wrong_line(froms, tale) is None


class Wrong(Answer):
    """A desk can't have the tale, from this line on."""

    def __init__(self, line):
        self.line = line

    def shows(self, froms, tale):
        """Whether this line of the tale is the first that can't come."""
        return is_number(self.line) and self.line == first_wrong_line(froms, tale)

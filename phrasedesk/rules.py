"""The one helper of the package: what the document says of values, chains, rounds and tales."""

FEWEST_TONGUES = 2
MOST_TONGUES = 8
MOST_PHRASES = 6
MOST_LETTERS = 6
LETTERS = "abcdefghijklmnopqrstuvwxyz"


def is_number(value):
    """Whether this is a whole number, which True and False are not."""
    return isinstance(value, int) and not isinstance(value, bool)


def is_count(value):
    """Whether this is a number from 0 on."""
    return is_number(value) and value >= 0


def is_pair(value):
    """Whether this is a pair, of whatever."""
    return isinstance(value, tuple) and len(value) == 2


def is_text(value):
    """Whether this is a text that may be put."""
    return isinstance(value, str) and 1 <= len(value) <= MOST_LETTERS and all([sign in LETTERS for sign in value])


def is_froms(value):
    """Whether this tells of 2 to 8 tongues from which earlier one each is put."""
    if not isinstance(value, list) or not FEWEST_TONGUES <= len(value) + 1 <= MOST_TONGUES:
        return False
    # The first item is tongue 1's, so an item's place is the last tongue that is earlier.
    return all([is_count(source) and source <= place for place, source in enumerate(value)])


def is_tongue(froms, value):
    """Whether this is one of the tongues, the source too."""
    return is_count(value) and value <= len(froms)


def is_row(froms, value):
    """Whether this is a row of a phrase in as many tongues as the froms tell of."""
    if not isinstance(value, list) or len(value) != len(froms) + 1:
        return False
    return is_source_cell(value[0]) and all([is_other_cell(cell) for cell in value[1:]])


def is_source_cell(value):
    """Whether this can stand in a row for the source."""
    return is_pair(value) and is_count(value[0]) and value[1] is None


def is_other_cell(value):
    """Whether this can stand in a row for a tongue but the source."""
    return value is None or is_pair(value) and is_count(value[0]) and is_count(value[1])


def copied(value):
    """A value with all its lists new, so that nobody else's change reaches it."""
    if isinstance(value, list):
        return [copied(part) for part in value]
    return value


def put_from(froms, tongue):
    """The tongue that this one, which is not the source, is put from."""
    return froms[tongue - 1]


def is_broken(froms, row, tongue):
    """Whether none stands in this tongue but the source, or one put from what does not stand."""
    cell = row[tongue]
    above = row[put_from(froms, tongue)]
    return cell is None or above is None or cell[1] != above[0]


def chain_up(froms, row, tongue):
    """The tongues from this one up to the first broken one; None if it is fresh."""
    chain = []
    at = tongue
    while at > 0:
        chain.append(at)
        if is_broken(froms, row, at):
            return chain
        at = put_from(froms, at)
    return None


def one_above(froms, pair):
    """The same phrase in the tongue that this pair's tongue is put from."""
    phrase, tongue = pair
    return (phrase, put_from(froms, tongue))


def depth_of(froms, olds, pair):
    """How many old ones stand above this one without a gap."""
    depth = 0
    above = one_above(froms, pair)
    # The source is never an old one, so this stops before it would ask what the source is put from.
    while above in olds:
        depth += 1
        above = one_above(froms, above)
    return depth


def rounds_needed(froms, old, hands, depth):
    """How many rounds this depth shows to be needed."""
    olds = {pair: True for pair in old}
    deep = len([pair for pair in old if depth_of(froms, olds, pair) >= depth])
    if deep == 0:
        return 0
    return depth + (deep + hands - 1) // hands


def round_of_each(olds, hands, rows):
    """For each old one in the rows the round it is put in; None if they are no rows of old ones, each once."""
    rounds = {}
    for at, row in enumerate(rows):
        if not isinstance(row, list) or not 1 <= len(row) <= hands:
            return None
        for pair in row:
            # Kinds come first: True would be found as 1, and a list can't be looked up.
            if not is_pair(pair) or not is_number(pair[0]) or not is_number(pair[1]):
                return None
            if pair not in olds or pair in rounds:
                return None
            rounds[pair] = at
    return rounds


def is_put_anew(froms, old, hands, rows):
    """Whether these rows put all old ones anew, each once and later than the old one right above it."""
    if not isinstance(rows, list):
        return False
    olds = {pair: True for pair in old}
    rounds = round_of_each(olds, hands, rows)
    if rounds is None or len(rounds) != len(olds):
        return False
    for pair in old:
        above = one_above(froms, pair)
        if above in rounds and rounds[above] >= rounds[pair]:
            return False
    return True


class Past:
    """What came at a desk so far, as far as it decides what can come next."""

    def __init__(self, froms):
        self.froms = list(froms)
        self.phrases = 0
        self.numbers = 0
        self.ever = {}
        self.piles = {}

    def takes(self, line):
        """Whether this line can come now; it has come then."""
        if line[0] == "phrase":
            return self.takes_phrase(line)
        if line[0] == "put":
            return self.takes_put(line)
        return self.takes_back(line)

    def takes_phrase(self, line):
        """As takes, of a line that a phrase is new."""
        phrase, text, number = line[1:]
        if phrase != self.phrases or phrase >= MOST_PHRASES or not is_text(text) or number != self.numbers:
            return False
        self.begin_phrase()
        self.lay_down(phrase, 0)
        return True

    def takes_put(self, line):
        """As takes, of a line that a text is put."""
        phrase, tongue, text, seen, over, number = line[1:]
        if not self.has_place(phrase, tongue) or not is_text(text) or not self.was_seen(phrase, tongue, seen):
            return False
        if over != self.standing(phrase, tongue) or number != self.numbers:
            return False
        self.lay_down(phrase, tongue)
        return True

    def takes_back(self, line):
        """As takes, of a line that what stands is taken back."""
        phrase, tongue, number = line[1:]
        if not self.has_place(phrase, tongue) or number != self.standing(phrase, tongue):
            return False
        pile = self.piles[(phrase, tongue)]
        if tongue == 0 and len(pile) == 1:
            return False
        pile.pop()
        return True

    def begin_phrase(self):
        """One more phrase, with nothing put yet in any tongue."""
        for tongue in range(len(self.froms) + 1):
            self.ever[(self.phrases, tongue)] = {}
            self.piles[(self.phrases, tongue)] = []
        self.phrases += 1

    def lay_down(self, phrase, tongue):
        """The next number is put here, and stands."""
        self.ever[(phrase, tongue)][self.numbers] = True
        self.piles[(phrase, tongue)].append(self.numbers)
        self.numbers += 1

    def has_place(self, phrase, tongue):
        """Whether there are this phrase and this tongue."""
        return (phrase, tongue) in self.piles

    def standing(self, phrase, tongue):
        """The number that stands here, None if none does."""
        pile = self.piles[(phrase, tongue)]
        return pile[-1] if pile else None

    def was_seen(self, phrase, tongue, seen):
        """Whether a text here can be put from this number: one ever put, taken back or not."""
        if tongue == 0:
            return seen is None
        return seen in self.ever[(phrase, put_from(self.froms, tongue))]


def first_wrong_line(froms, tale):
    """The first line that can't come at a desk with these froms; None if all can."""
    past = Past(froms)
    for at, line in enumerate(tale):
        if not past.takes(line):
            return at
    return None

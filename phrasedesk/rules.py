"""The one helper of the package: what the document says of values, chains, rounds and tales."""

FEWEST_TONGUES = 2
MOST_TONGUES = 8
MOST_PHRASES = 6
MOST_LETTERS = 6
MOST_HANDS = 4
MOST_LINES = 40
LETTERS = "abcdefghijklmnopqrstuvwxyz"


def is_number(value):
    """Whether this is a whole number, which True and False are not."""
    return isinstance(value, int) and not isinstance(value, bool)


def is_count(value):
    """Whether this is a number from 0 on."""
    return is_number(value) and value >= 0


def is_number_or_none(value):
    """Whether this is a whole number or None."""
    return value is None or is_number(value)


def is_pair(value):
    """Whether this is a pair, of whatever."""
    return isinstance(value, tuple) and len(value) == 2


def is_text(value):
    """Whether this is a text that may be put."""
    return isinstance(value, str) and 1 <= len(value) <= MOST_LETTERS and all([sign in LETTERS for sign in value])


def is_froms(value):
    """Whether this tells of 2 to 8 tongues from which earlier one each is put."""
    if not isinstance(value, list) or not FEWEST_TONGUES <= len(value) + 1 <= MOST_TONGUES:
        return False
    # The first item is tongue 1's, so an item's place is the last tongue that is earlier.
    return all([is_count(source) and source <= place for place, source in enumerate(value)])


def is_tongue(froms, value):
    """Whether this is one of the tongues, the source too."""
    return is_count(value) and value <= len(froms)


def is_row(froms, value):
    """Whether this is a row of a phrase in as many tongues as the froms tell of."""
    if not isinstance(value, list) or len(value) != len(froms) + 1:
        return False
    return is_source_cell(value[0]) and all([is_other_cell(cell) for cell in value[1:]])


def is_source_cell(value):
    """Whether this can stand in a row for the source."""
    return is_pair(value) and is_count(value[0]) and value[1] is None


def is_other_cell(value):
    """Whether this can stand in a row for a tongue but the source."""
    return value is None or is_pair(value) and is_count(value[0]) and is_count(value[1])


def is_old_one(froms, value):
    """Whether this is a pair of a phrase that a desk can have and a tongue but the source."""
    if not is_pair(value) or not is_count(value[0]) or not is_tongue(froms, value[1]):
        return False
    return value[0] < MOST_PHRASES and value[1] > 0


def is_old(froms, value):
    """Whether this is a rising list of old ones."""
    if not isinstance(value, list) or not all([is_old_one(froms, pair) for pair in value]):
        return False
    return all([pair < following for pair, following in zip(value, value[1:])])


def is_hands(value):
    """Whether this is a number of hands."""
    return is_number(value) and 1 <= value <= MOST_HANDS


def is_phrase_line(value):
    """Whether this tuple is a line that tells of a new phrase, one that can come or not."""
    if len(value) != 4 or value[0] != "phrase":
        return False
    return is_number(value[1]) and isinstance(value[2], str) and is_number(value[3])


def is_put_line(value):
    """Whether this tuple is a line that tells of a put, one that can come or not."""
    if len(value) != 7 or value[0] != "put" or not isinstance(value[3], str):
        return False
    if not is_number_or_none(value[4]) or not is_number_or_none(value[5]):
        return False
    return is_number(value[1]) and is_number(value[2]) and is_number(value[6])


def is_back_line(value):
    """Whether this tuple is a line that tells of a taking back, one that can come or not."""
    return len(value) == 4 and value[0] == "back" and all([is_number(part) for part in value[1:]])


def is_line(value):
    """Whether this is a line of a tale, one that can come or not."""
    # Only a string is compared with the words: what else is handed in could compare in its own way.
    if not isinstance(value, tuple) or not value or not isinstance(value[0], str):
        return False
    return is_phrase_line(value) or is_put_line(value) or is_back_line(value)


def is_tale(value):
    """Whether this is a tale that can be judged."""
    return isinstance(value, list) and len(value) <= MOST_LINES and all([is_line(line) for line in value])


def copied(value):
    """A value with all its lists new, so that nobody else's change reaches it."""
    if isinstance(value, list):
        return [copied(part) for part in value]
    return value


def put_from(froms, tongue):
    """The tongue that this one, which is not the source, is put from."""
    return froms[tongue - 1]


def is_broken(froms, row, tongue):
    """Whether none stands in this tongue but the source, or one put from what does not stand."""
    cell = row[tongue]
    above = row[put_from(froms, tongue)]
    return cell is None or above is None or cell[1] != above[0]


def chain_up(froms, row, tongue):
    """The tongues from this one up to the first broken one; None if it is fresh."""
    chain = []
    at = tongue
    while at > 0:
        chain.append(at)
        if is_broken(froms, row, at):
            return chain
        at = put_from(froms, at)
    return None


def one_above(froms, pair):
    """The same phrase in the tongue that this pair's tongue is put from."""
    phrase, tongue = pair
    return (phrase, put_from(froms, tongue))


def depth_of(froms, olds, pair):
    """How many old ones stand above this one without a gap."""
    depth = 0
    above = one_above(froms, pair)
    # The source is never an old one, so this stops before it would ask what the source is put from.
    while above in olds:
        depth += 1
        above = one_above(froms, above)
    return depth


def rounds_needed(froms, old, hands, depth):
    """How many rounds this depth shows to be needed."""
    olds = {pair: True for pair in old}
    deep = len([pair for pair in old if depth_of(froms, olds, pair) >= depth])
    if deep == 0:
        return 0
    return depth + (deep + hands - 1) // hands


def round_of_each(olds, hands, rows):
    """For each old one in the rows the round it is put in; None if they are no rows of old ones, each once."""
    rounds = {}
    for at, row in enumerate(rows):
        if not isinstance(row, list) or not 1 <= len(row) <= hands:
            return None
        for pair in row:
            # Kinds come first: True would be found as 1, and a list can't be looked up.
            if not is_pair(pair) or not is_number(pair[0]) or not is_number(pair[1]):
                return None
            if pair not in olds or pair in rounds:
                return None
            rounds[pair] = at
    return rounds


def is_put_anew(froms, old, hands, rows):
    """Whether these rows put all old ones anew, each once and later than the old one right above it."""
    if not isinstance(rows, list):
        return False
    olds = {pair: True for pair in old}
    rounds = round_of_each(olds, hands, rows)
    if rounds is None or len(rounds) != len(olds):
        return False
    for pair in old:
        above = one_above(froms, pair)
        if above in rounds and rounds[above] >= rounds[pair]:
            return False
    return True


class Past:
    """What came at a desk so far: what stands, and all that was ever put."""

    def __init__(self, froms):
        self.froms = list(froms)
        self.phrases = 0
        # The text that has a number, and what it was put from, stand at the number's place.
        self.texts = []
        self.origins = []
        self.ever = {}
        self.piles = {}

    def begin_phrase(self):
        """One more phrase, with nothing put yet in any tongue; told is its number."""
        phrase = self.phrases
        for tongue in range(len(self.froms) + 1):
            self.ever[(phrase, tongue)] = {}
            self.piles[(phrase, tongue)] = []
        self.phrases += 1
        return phrase

    def lay_down(self, phrase, tongue, text, seen):
        """A text is put here and stands; told is its number, the next one."""
        number = len(self.texts)
        self.texts.append(text)
        self.origins.append(seen)
        self.ever[(phrase, tongue)][number] = True
        self.piles[(phrase, tongue)].append(number)
        return number

    def take_off(self, phrase, tongue):
        """What stands here does no more; told is its number."""
        return self.piles[(phrase, tongue)].pop()

    def has_phrase(self, value):
        """Whether this is one of the phrases."""
        return is_count(value) and value < self.phrases

    def standing(self, phrase, tongue):
        """The number that stands here, None if none does."""
        pile = self.piles[(phrase, tongue)]
        return pile[-1] if pile else None

    def text_standing(self, phrase, tongue):
        """The text that stands here, None if none does."""
        number = self.standing(phrase, tongue)
        return None if number is None else self.texts[number]

    def cells(self, phrase):
        """The phrase's row."""
        numbers = [self.standing(phrase, tongue) for tongue in range(len(self.froms) + 1)]
        return [None if number is None else (number, self.origins[number]) for number in numbers]

    def was_seen(self, phrase, tongue, seen):
        """Whether a text here can be put from this number: one ever put, taken back or not."""
        if tongue == 0:
            return seen is None
        return is_number(seen) and seen in self.ever[(phrase, put_from(self.froms, tongue))]

    def is_over(self, phrase, tongue, over):
        """Whether this is the number that stands here, or None as none does."""
        return is_number_or_none(over) and over == self.standing(phrase, tongue)

    def can_take_off(self, phrase, tongue):
        """Whether something stands here that may be taken back, which the source's first may not."""
        return len(self.piles[(phrase, tongue)]) > (1 if tongue == 0 else 0)

    def takes(self, line):
        """Whether this line can come now; if so it has come then."""
        if line[0] == "phrase":
            return self.takes_phrase(line)
        if not self.has_phrase(line[1]) or not is_tongue(self.froms, line[2]):
            return False
        if line[0] == "put":
            return self.takes_put(line)
        return self.takes_back(line)

    def takes_phrase(self, line):
        """As takes, of a line that a phrase is new."""
        phrase, text, number = line[1:]
        if phrase != self.phrases or phrase >= MOST_PHRASES or not is_text(text) or number != len(self.texts):
            return False
        self.begin_phrase()
        self.lay_down(phrase, 0, text, None)
        return True

    def takes_put(self, line):
        """As takes, of a line that a text is put in a phrase and a tongue that there are."""
        phrase, tongue, text, seen, over, number = line[1:]
        if not is_text(text) or not self.was_seen(phrase, tongue, seen) or not self.is_over(phrase, tongue, over):
            return False
        if number != len(self.texts):
            return False
        self.lay_down(phrase, tongue, text, seen)
        return True

    def takes_back(self, line):
        """As takes, of a line that what stands in a phrase and a tongue that there are is taken back."""
        phrase, tongue, number = line[1:]
        if not self.can_take_off(phrase, tongue) or number != self.standing(phrase, tongue):
            return False
        self.take_off(phrase, tongue)
        return True


def first_wrong_line(froms, tale):
    """The first line that can't come at a desk with these froms; None if all can."""
    past = Past(froms)
    for at, line in enumerate(tale):
        if not past.takes(line):
            return at
    return None

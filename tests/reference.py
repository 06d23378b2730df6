"""What the document tells, said once more in the plainest and slowest way, for the tests to compare with."""

import itertools


def all_froms(tongues):
    """All froms of so many tongues."""
    return [list(froms) for froms in itertools.product(*[range(at + 1) for at in range(tongues - 1)])]


def broken(froms, row, tongue):
    if tongue == 0:
        return False
    stands_above = row[froms[tongue - 1]]
    if row[tongue] is None or stands_above is None:
        return True
    return stands_above[0] != row[tongue][1]


def path_to_source(froms, tongue):
    return [tongue] if tongue == 0 else [tongue] + path_to_source(froms, froms[tongue - 1])


def chain(froms, row, tongue):
    """The chain of an old one, or None for a fresh one."""
    path = path_to_source(froms, tongue)
    faults = [at for at, one in enumerate(path) if broken(froms, row, one)]
    return path[:faults[0] + 1] if faults else None


def fewest_rounds(froms, old, hands):
    """By trying every choice of each round, breadth first."""
    reached = {frozenset()}
    rounds = 0
    while frozenset(old) not in reached:
        following = set()
        for done in reached:
            ready = [(p, t) for p, t in old
                     if (p, t) not in done and ((p, froms[t - 1]) not in old or (p, froms[t - 1]) in done)]
            for some in itertools.combinations(ready, min(hands, len(ready))):
                following.add(done | set(some))
        reached = following
        rounds += 1
    return rounds


def depth(froms, old, pair):
    phrase, tongue = pair
    above = (phrase, froms[tongue - 1])
    return 1 + depth(froms, old, above) if above in old else 0


def needed(froms, old, hands, at):
    """The rounds that a depth shows to be needed."""
    deep = [pair for pair in old if depth(froms, old, pair) >= at]
    return at + -(-len(deep) // hands) if deep else 0


def is_rounds(froms, old, hands, rows, at):
    """Whether rows and a depth are as 7 tells."""
    flat = [pair for row in rows for pair in row]
    if sorted(flat) != sorted(old) or any(not row or len(row) > hands for row in rows):
        return False
    for late, row in enumerate(rows):
        for phrase, tongue in row:
            above = (phrase, froms[tongue - 1])
            if above in old and not any(above in earlier for earlier in rows[:late]):
                return False
    return at >= 0 and len(rows) == needed(froms, old, hands, at)


def good_rows(froms, old, hands):
    """As few rows as can be: filled from the last one back, the deepest first."""
    left = sorted(old, key=lambda pair: depth(froms, old, pair), reverse=True)
    rows = []
    while left:
        # Filled backwards, one may go in when all that are put from it are in later rows.
        free = [pair for pair in left
                if not any((p, froms[t - 1]) == pair for p, t in left)]
        taken = free[:hands]
        rows.append(taken)
        left = [pair for pair in left if pair not in taken]
    return rows[::-1]


def standing(lines, phrase, tongue):
    """All that stand one over the other there after these lines."""
    stood = []
    for line in lines:
        if line[0] == "phrase" and (line[1], 0) == (phrase, tongue):
            stood = stood + [line[3]]
        if line[0] == "put" and line[1:3] == (phrase, tongue):
            stood = stood + [line[6]]
        if line[0] == "back" and line[1:3] == (phrase, tongue):
            stood = stood[:-1]
    return stood


def ever_put(lines, phrase, tongue):
    firsts = [line[3] for line in lines if line[0] == "phrase" and (line[1], 0) == (phrase, tongue)]
    return firsts + [line[6] for line in lines if line[0] == "put" and line[1:3] == (phrase, tongue)]


def good_text(text):
    return 0 < len(text) < 7 and not text.strip("abcdefghijklmnopqrstuvwxyz")


def can_come(froms, lines, line):
    """Whether this line can come after these, which could."""
    phrases = len([one for one in lines if one[0] == "phrase"])
    numbers = len([one for one in lines if one[0] != "back"])
    if line[0] == "phrase":
        return line[1] == phrases < 6 and good_text(line[2]) and line[3] == numbers
    phrase, tongue = line[1:3]
    if not 0 <= phrase < phrases or not 0 <= tongue <= len(froms):
        return False
    stood = standing(lines, phrase, tongue)
    if line[0] == "back":
        return len(stood) > (1 if tongue == 0 else 0) and stood[-1] == line[3]
    text, seen, over, number = line[3:]
    sources = [None] if tongue == 0 else ever_put(lines, phrase, froms[tongue - 1])
    return good_text(text) and seen in sources and over == ([None] + stood)[-1] and number == numbers


def first_wrong(froms, tale):
    for at, line in enumerate(tale):
        if not can_come(froms, tale[:at], line):
            return at
    return None


class SlowDesk:
    """A desk that keeps nothing but its tale, and finds all the rest in it."""

    def __init__(self, froms):
        self.froms = list(froms)
        self.lines = []

    def phrases(self):
        return len([line for line in self.lines if line[0] == "phrase"])

    def places(self):
        """All pairs of a phrase and a tongue, the source too."""
        return list(itertools.product(range(self.phrases()), range(len(self.froms) + 1)))

    def puts(self):
        """All that was ever put as tuples of number, phrase, tongue, text, seen."""
        found = []
        for line in self.lines:
            if line[0] == "phrase":
                found.append((line[3], line[1], 0, line[2], None))
            if line[0] == "put":
                found.append((line[6], line[1], line[2], line[3], line[4]))
        return found

    def stands(self):
        """The numbers that stand one over the other, for each place."""
        stood = {place: [] for place in self.places()}
        for line in self.lines:
            if line[0] == "phrase":
                stood[line[1], 0].append(line[3])
            elif line[0] == "put":
                stood[line[1:3]].append(line[6])
            else:
                stood[line[1:3]].remove(line[3])
        return stood

    def rows(self):
        seen = {number: origin for number, _, _, _, origin in self.puts()}
        rows = [[None] * (len(self.froms) + 1) for _ in range(self.phrases())]
        for (phrase, tongue), stood in self.stands().items():
            if stood:
                rows[phrase][tongue] = (stood[-1], seen[stood[-1]])
        return rows

    def old(self):
        rows = self.rows()
        return [(phrase, tongue) for phrase, tongue in self.places() if chain(self.froms, rows[phrase], tongue)]

    def everything(self):
        """All that a desk tells of what it has, in one dict."""
        texts = {number: text for number, _, _, text, _ in self.puts()}
        rows, old, found = self.rows(), self.old(), {}
        now = {(p, t): rows[p][t] and (rows[p][t][0], texts[rows[p][t][0]]) for p, t in self.places()}
        for phrase, tongue in self.places():
            found["now", phrase, tongue] = now[phrase, tongue]
            found["all_put", phrase, tongue] = [(one[0], one[3]) for one in self.puts() if one[1:3] == (phrase, tongue)]
            found["row", phrase] = rows[phrase]
            if tongue:
                above = self.froms[tongue - 1]
                like = {now[other, tongue][1] for other in range(self.phrases())
                        if other != phrase and (other, tongue) not in old and now[phrase, above]
                        and now[other, above][1] == now[phrase, above][1]}
                found["likes", phrase, tongue] = sorted(like)
        found["old",] = old
        found["tale",] = list(self.lines)
        return found

    def refusal(self, deed, *parts):
        """The name of the refusal of a deed whose parts are numbers, None and texts; None if it goes."""
        if deed == "phrase":
            return "BadText" if not good_text(parts[0]) else "TooMany" if self.phrases() == 6 else None
        if deed == "fill":
            return None if 1 <= parts[0] <= len(self.froms) else "BadTongue"
        phrase, tongue = parts[:2]
        if not 0 <= phrase < self.phrases():
            return "BadPhrase"
        if not 0 <= tongue <= len(self.froms):
            return "BadTongue"
        stood = self.stands()[phrase, tongue]
        if deed == "back":
            return "Nothing" if stood[1 if tongue == 0 else 0:] == [] else None
        text, seen, over = parts[2:]
        if not good_text(text):
            return "BadText"
        above = None if tongue == 0 else self.froms[tongue - 1]
        if seen not in ([None] if tongue == 0 else [one[0] for one in self.puts() if one[1:3] == (phrase, above)]):
            return "BadSeen"
        return None if over == ([None] + stood)[-1] else "Overtaken"

    def do(self, deed, *parts):
        """What a deed that isn't refused tells; it is done then."""
        number = len(self.puts())
        if deed == "phrase":
            self.lines.append(("phrase", self.phrases(), parts[0], number))
            return self.phrases() - 1
        if deed == "put":
            self.lines.append(("put", *parts, number))
            return number
        if deed == "back":
            number = self.stands()[parts][-1]
            self.lines.append(("back", *parts, number))
            return number
        return self.do_fill(parts[0])

    def do_fill(self, tongue):
        filled = []
        for phrase in range(self.phrases()):
            row = self.rows()[phrase]
            like = self.everything()["likes", phrase, tongue]
            above = self.froms[tongue - 1]
            if broken(self.froms, row, tongue) and (phrase, above) not in self.old() and len(like) == 1:
                over = None if row[tongue] is None else row[tongue][0]
                self.do("put", phrase, tongue, like[0], row[above][0], over)
                filled.append(phrase)
        return filled


def all_told(desk, phrases, tongues):
    """All that a desk tells of what it has, in one dict, as SlowDesk.everything does."""
    found = {("old",): desk.old(), ("tale",): desk.tale()}
    for phrase in range(phrases):
        found["row", phrase] = desk.row(phrase)
        for tongue in range(tongues):
            found["now", phrase, tongue] = desk.now(phrase, tongue)
            found["all_put", phrase, tongue] = desk.all_put(phrase, tongue)
            if tongue:
                found["likes", phrase, tongue] = desk.likes(phrase, tongue)
    return found


def some_deed(chance, slow):
    """A deed for a desk like this slow one, by chance: most go, some are refused."""
    phrases, tongues, numbers = slow.phrases(), len(slow.froms) + 1, len(slow.puts())
    if not phrases or chance.random() < 0.08:
        return ("phrase", chance.choice(["a", "a", "a", "a", "b", "abcdef", ""]))
    if chance.random() < 0.15:
        return ("fill", chance.randint(1, tongues - 1) if chance.random() < 0.9 else chance.choice([0, -1, tongues]))
    phrase, tongue = chance.randrange(phrases), chance.randrange(tongues)
    if chance.random() < 0.04:
        phrase = chance.choice([-1, phrases, 6])
    if chance.random() < 0.04:
        tongue = chance.choice([-1, tongues, 8])
    if chance.random() < 0.25:
        return ("back", phrase, tongue)
    stood = slow.stands().get((phrase, tongue), [])
    over = stood[-1] if stood else None
    if chance.random() < 0.1:
        over = chance.choice([None, *stood, chance.randint(0, numbers), -1])
    seen = None
    if 0 < tongue < tongues:
        above = slow.froms[tongue - 1]
        ever = [one[0] for one in slow.puts() if one[1:3] == (phrase, above)]
        standing_above = slow.stands().get((phrase, above), [])
        seen = chance.choice((standing_above[-1:] or [None]) * 2 + [*ever[-2:], chance.choice(ever or [None])])
        if not ever and chance.random() < 0.7:
            # Most puts into such a place would only be refused.
            return some_deed(chance, slow)
    if chance.random() < 0.05:
        seen = chance.choice([None, chance.randint(0, numbers), -1])
    text = chance.choice(["a", "b", "b", "b", "zz"] if chance.random() < 0.97 else ["", "ABC", "abcdefg"])
    return ("put", phrase, tongue, text, seen, over)

"""What the document tells, said once more in the plainest and slowest way, for the tests to compare with."""

import itertools


def all_froms(tongues):
    """All froms of so many tongues."""
    return [list(froms) for froms in itertools.product(*[range(at + 1) for at in range(tongues - 1)])]


def broken(froms, row, tongue):
    if tongue == 0:
        return False
    stands_above = row[froms[tongue - 1]]
    if row[tongue] is None or stands_above is None:
        return True
    return stands_above[0] != row[tongue][1]


def path_to_source(froms, tongue):
    return [tongue] if tongue == 0 else [tongue] + path_to_source(froms, froms[tongue - 1])


def chain(froms, row, tongue):
    """The chain of an old one, or None for a fresh one."""
    path = path_to_source(froms, tongue)
    faults = [at for at, one in enumerate(path) if broken(froms, row, one)]
    return path[:faults[0] + 1] if faults else None


def fewest_rounds(froms, old, hands):
    """By trying every choice of each round, breadth first."""
    reached = {frozenset()}
    rounds = 0
    while frozenset(old) not in reached:
        following = set()
        for done in reached:
            ready = [(p, t) for p, t in old
                     if (p, t) not in done and ((p, froms[t - 1]) not in old or (p, froms[t - 1]) in done)]
            for some in itertools.combinations(ready, min(hands, len(ready))):
                following.add(done | set(some))
        reached = following
        rounds += 1
    return rounds


def depth(froms, old, pair):
    phrase, tongue = pair
    above = (phrase, froms[tongue - 1])
    return 1 + depth(froms, old, above) if above in old else 0


def needed(froms, old, hands, at):
    """The rounds that a depth shows to be needed."""
    deep = [pair for pair in old if depth(froms, old, pair) >= at]
    return at + -(-len(deep) // hands) if deep else 0


def is_rounds(froms, old, hands, rows, at):
    """Whether rows and a depth are as 7 tells."""
    flat = [pair for row in rows for pair in row]
    if sorted(flat) != sorted(old) or any(not row or len(row) > hands for row in rows):
        return False
    for late, row in enumerate(rows):
        for phrase, tongue in row:
            above = (phrase, froms[tongue - 1])
            if above in old and not any(above in earlier for earlier in rows[:late]):
                return False
    return at >= 0 and len(rows) == needed(froms, old, hands, at)


def good_rows(froms, old, hands):
    """As few rows as can be: filled from the last one back, the deepest first."""
    left = sorted(old, key=lambda pair: depth(froms, old, pair), reverse=True)
    rows = []
    while left:
        # Filled backwards, one may go in when all that are put from it are in later rows.
        free = [pair for pair in left
                if not any((p, froms[t - 1]) == pair for p, t in left)]
        taken = free[:hands]
        rows.append(taken)
        left = [pair for pair in left if pair not in taken]
    return rows[::-1]


def standing(lines, phrase, tongue):
    """All that stand one over the other there after these lines."""
    stood = []
    for line in lines:
        if line[0] == "phrase" and (line[1], 0) == (phrase, tongue):
            stood = stood + [line[3]]
        if line[0] == "put" and line[1:3] == (phrase, tongue):
            stood = stood + [line[6]]
        if line[0] == "back" and line[1:3] == (phrase, tongue):
            stood = stood[:-1]
    return stood


def ever_put(lines, phrase, tongue):
    firsts = [line[3] for line in lines if line[0] == "phrase" and (line[1], 0) == (phrase, tongue)]
    return firsts + [line[6] for line in lines if line[0] == "put" and line[1:3] == (phrase, tongue)]


def good_text(text):
    return 0 < len(text) < 7 and not text.strip("abcdefghijklmnopqrstuvwxyz")


def can_come(froms, lines, line):
    """Whether this line can come after these, which could."""
    phrases = len([one for one in lines if one[0] == "phrase"])
    numbers = len([one for one in lines if one[0] != "back"])
    if line[0] == "phrase":
        return line[1] == phrases < 6 and good_text(line[2]) and line[3] == numbers
    phrase, tongue = line[1:3]
    if not 0 <= phrase < phrases or not 0 <= tongue <= len(froms):
        return False
    stood = standing(lines, phrase, tongue)
    if line[0] == "back":
        return len(stood) > (1 if tongue == 0 else 0) and stood[-1] == line[3]
    text, seen, over, number = line[3:]
    sources = [None] if tongue == 0 else ever_put(lines, phrase, froms[tongue - 1])
    return good_text(text) and seen in sources and over == ([None] + stood)[-1] and number == numbers


def first_wrong(froms, tale):
    for at, line in enumerate(tale):
        if not can_come(froms, tale[:at], line):
            return at
    return None

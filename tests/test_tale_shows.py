"""Right and Wrong say by themselves whether a tale is so, to the first line."""

import copy
import random
import unittest

import reference
from phrasedesk.answers import Right, Wrong

GREAT = 10 ** 50
FROMS = [0, 1, 0]
START = [("phrase", 0, "hello", 0), ("put", 0, 1, "hallo", 0, None, 1), ("put", 0, 2, "hej", 1, None, 2)]


class TaleShows(unittest.TestCase):
    def judges(self, froms, tale, wrong):
        """The first wrong line is this, None for a right tale, and nothing else shows."""
        before = copy.deepcopy((froms, tale))
        self.assertIs(Right().shows(froms, tale), wrong is None)
        for line in [*range(-3, len(tale) + 3), -GREAT, GREAT]:
            self.assertIs(Wrong(line).shows(froms, tale), line == wrong, line)
        self.assertEqual((froms, tale), before)

    def can(self, *lines, froms=FROMS, start=START):
        self.judges(froms, [*start, *lines], None)

    def cannot(self, *lines, froms=FROMS, start=START):
        """The last of these lines can't come, all ahead of it can."""
        tale = [*start, *lines]
        self.judges(froms, tale, len(tale) - 1)
        # What follows a wrong line is not looked at.
        self.judges(froms, tale + [("back", GREAT, -1, -1), *START], len(tale) - 1)

    def test_the_empty_tale(self):
        for froms in ([0], FROMS, [0] * 7, list(range(7))):
            self.judges(froms, [], None)

    def test_phrases(self):
        self.can(start=[])
        self.can(("phrase", 1, "a", 3), ("phrase", 2, "zzzzzz", 4))
        self.can(("phrase", 1, "hello", 3))
        for phrase in (0, 2, 6, -1, -2, GREAT):
            self.cannot(("phrase", phrase, "a", 3))
        for number in (0, 2, 4, -1, GREAT):
            self.cannot(("phrase", 1, "a", number))
        self.cannot(("phrase", 1, "a", 0), start=[])
        self.cannot(("phrase", 0, "a", 1), start=[])

    def test_at_most_6_phrases(self):
        six = [("phrase", at, "a", at) for at in range(6)]
        self.can(start=six)
        self.can(("put", 5, 1, "b", 5, None, 6), start=six)
        self.cannot(("phrase", 6, "a", 6), start=six)
        self.cannot(("phrase", 5, "a", 6), start=six)
        self.cannot(("put", 6, 1, "b", 5, None, 6), start=six)

    def test_texts(self):
        for text in ("a", "z", "az", "abcdef", "zzzzzz"):
            self.can(("phrase", 1, text, 3))
            self.can(("put", 0, 3, text, 0, None, 3))
        for text in ("", "abcdefg", "z" * 5000, "A", "aB", "a b", " ", " a", "a\n", "\n", "a1", "0", "a-", "`", "{", "~",
                     "@", "[", "abcdeF", "\x00"):
            with self.subTest(text[:9]):
                self.cannot(("phrase", 1, text, 3))
                self.cannot(("put", 0, 3, text, 0, None, 3))
                self.cannot(("put", 0, 0, text, None, 0, 3))

    def test_put_phrase_and_tongue(self):
        for phrase in (1, -1, 5, 6, GREAT, -GREAT):
            self.cannot(("put", phrase, 3, "a", 0, None, 3))
        for tongue in (-1, -2, -3, -4, 4, 5, 8, GREAT, -GREAT):
            self.cannot(("put", 0, tongue, "a", 0, None, 3))
            self.cannot(("put", 0, tongue, "a", None, None, 3))
            self.cannot(("put", 0, tongue, "a", None, 0, 3))
        self.cannot(("put", 0, 0, "a", None, None, 0), start=[])
        self.cannot(("put", 0, 1, "a", 0, None, 0), start=[])

    def test_put_from_what_was_ever_put_there(self):
        for seen in (None, 1, 2, 3, -1, GREAT):
            self.cannot(("put", 0, 3, "a", seen, None, 3))
        self.can(("put", 0, 3, "a", 0, None, 3))
        for seen in (None, 0, 2, 3, -1):
            self.cannot(("put", 0, 2, "a", seen, 2, 3))
        self.can(("put", 0, 2, "a", 1, 2, 3))
        # An overtaken one, and one that was taken back, were put all the same.
        again = ("put", 0, 1, "b", 0, 1, 3)
        self.can(again, ("put", 0, 2, "c", 1, 2, 4))
        self.can(again, ("put", 0, 2, "c", 3, 2, 4))
        self.can(again, ("back", 0, 1, 3), ("put", 0, 2, "c", 3, 2, 4))
        self.can(("back", 0, 1, 1), ("put", 0, 2, "c", 1, 2, 3))
        self.cannot(again, ("put", 0, 2, "c", 2, 2, 4))

    def test_put_from_what_another_phrase_has_is_wrong(self):
        other = ("phrase", 1, "more", 3)
        self.can(other, ("put", 1, 1, "mehr", 3, None, 4))
        self.cannot(other, ("put", 1, 1, "mehr", 0, None, 4))
        self.cannot(other, ("put", 0, 3, "mehr", 3, None, 4))

    def test_put_in_the_source(self):
        self.can(("put", 0, 0, "hi", None, 0, 3), ("put", 0, 0, "ho", None, 3, 4))
        for seen in (0, 1, -1, 3):
            self.cannot(("put", 0, 0, "hi", seen, 0, 3))
        for over in (None, 1, 2, 3, -1):
            self.cannot(("put", 0, 0, "hi", None, over, 3))
        self.can(("put", 0, 0, "hi", None, 0, 3), ("put", 0, 1, "ha", 3, 1, 4), ("put", 0, 1, "he", 0, 4, 5))

    def test_put_over_what_stands(self):
        for over in (0, 1, 2, 3, -1, GREAT):
            self.cannot(("put", 0, 3, "a", 0, over, 3))
        for over in (None, 0, 2, 3, -1):
            self.cannot(("put", 0, 1, "a", 0, over, 3))
        self.can(("put", 0, 1, "a", 0, 1, 3), ("put", 0, 1, "b", 0, 3, 4))
        self.cannot(("put", 0, 1, "a", 0, 1, 3), ("put", 0, 1, "b", 0, 1, 4))
        self.can(("put", 0, 1, "a", 0, 1, 3), ("back", 0, 1, 3), ("put", 0, 1, "b", 0, 1, 4))
        self.can(("back", 0, 1, 1), ("put", 0, 1, "b", 0, None, 3))
        self.cannot(("back", 0, 1, 1), ("put", 0, 1, "b", 0, 1, 3))

    def test_numbers_in_turn(self):
        for number in (0, 1, 2, 4, -1, GREAT):
            self.cannot(("put", 0, 3, "a", 0, None, number))
        # One that was taken back keeps its number.
        self.cannot(("back", 0, 2, 2), ("put", 0, 2, "a", 1, None, 2))
        self.can(("back", 0, 2, 2), ("put", 0, 2, "a", 1, None, 3))
        self.can(("back", 0, 2, 2), ("phrase", 1, "a", 3))

    def test_back(self):
        self.can(("back", 0, 2, 2))
        self.can(("back", 0, 1, 1), ("back", 0, 2, 2))
        for number in (0, 1, 3, -1, GREAT):
            self.cannot(("back", 0, 2, number))
        for number in (0, 1, 2, 3, -1):
            self.cannot(("back", 0, 3, number))
        for phrase in (1, -1, 6, GREAT):
            self.cannot(("back", phrase, 2, 2))
        for tongue in (-1, -2, 4, 8, GREAT):
            self.cannot(("back", 0, tongue, 2))
        self.cannot(("back", 0, 0, 0), start=[])

    def test_back_to_what_stood_ahead(self):
        put = [("put", 0, 2, "a", 1, 2, 3), ("put", 0, 2, "b", 1, 3, 4)]
        self.can(*put, ("back", 0, 2, 4), ("back", 0, 2, 3), ("back", 0, 2, 2))
        self.cannot(*put, ("back", 0, 2, 4), ("back", 0, 2, 4))
        self.cannot(*put, ("back", 0, 2, 4), ("back", 0, 2, 2))
        self.cannot(*put, ("back", 0, 2, 3))
        self.cannot(("back", 0, 2, 2), ("back", 0, 2, 2))
        # 5 was put when 3 stood again, so 3 stood ahead of it, not 4.
        self.can(*put, ("back", 0, 2, 4), ("put", 0, 2, "c", 1, 3, 5), ("back", 0, 2, 5), ("back", 0, 2, 3))
        self.cannot(*put, ("back", 0, 2, 4), ("put", 0, 2, "c", 1, 3, 5), ("back", 0, 2, 5), ("back", 0, 2, 4))

    def test_the_first_of_the_source_can_not_be_taken_back(self):
        self.cannot(("back", 0, 0, 0))
        self.can(("put", 0, 0, "hi", None, 0, 3), ("back", 0, 0, 3))
        self.cannot(("put", 0, 0, "hi", None, 0, 3), ("back", 0, 0, 0))
        self.cannot(("put", 0, 0, "hi", None, 0, 3), ("back", 0, 0, 3), ("back", 0, 0, 0))
        self.can(("put", 0, 0, "hi", None, 0, 3), ("back", 0, 0, 3), ("put", 0, 0, "ha", None, 0, 4))

    def test_the_same_tale_by_other_froms(self):
        self.judges([0, 1], START, None)
        self.judges([0, 0], START, 2)
        self.judges([0], START, 2)

    def test_40_lines(self):
        tale = [("phrase", 0, "a", 0)] + [("put", 0, 0, "a", None, at, at + 1) for at in range(39)]
        self.assertEqual(len(tale), 40)
        self.judges([0], tale, None)
        self.judges([0], tale[:39] + [("put", 0, 0, "a", None, 37, 39)], 39)
        self.judges([0], tale[1:], 0)

    def test_by_the_field_as_it_stands_then(self):
        tale = START + [("back", 0, 0, 0)]
        answer = Wrong(1)
        self.assertIs(answer.shows(FROMS, tale), False)
        answer.line = 3
        self.assertIs(answer.shows(FROMS, tale), True)
        answer.line += 1
        self.assertIs(answer.shows(FROMS, tale), False)

    def test_fields_of_other_kinds_are_just_not_so(self):
        wrong_at_1 = [("phrase", 0, "a", 0), ("back", 0, 0, 0)]
        wrong_at_0 = [("back", 0, 0, 0)]
        for line in (None, True, False, "1", [1], (1,)):
            for tale in (START, wrong_at_0, wrong_at_1, []):
                self.assertIs(Wrong(line).shows(FROMS, tale), False)

    def test_asking_twice_tells_the_same(self):
        answer, wrong = Right(), Wrong(0)
        for _ in range(2):
            self.assertIs(answer.shows(FROMS, START), True)
            self.assertIs(wrong.shows(FROMS, START), False)


def some_line(chance, froms, lines):
    """A line that often can come, after these."""
    phrases = len([line for line in lines if line[0] == "phrase"])
    numbers = len([line for line in lines if line[0] != "back"])
    phrase, tongue = chance.randint(0, max(0, phrases - 1)), chance.randint(0, len(froms))
    stood = reference.standing(lines, phrase, tongue)
    kind = chance.choice(["phrase", "put", "put", "put", "back", "back"]) if phrases else "phrase"
    if kind == "phrase":
        return ("phrase", phrases, chance.choice(["a", "bb"]), numbers)
    if kind == "back":
        return ("back", phrase, tongue, stood[-1] if stood else chance.randint(0, numbers))
    ever = [None] if tongue == 0 else reference.ever_put(lines, phrase, froms[tongue - 1])
    return ("put", phrase, tongue, "c", chance.choice(ever or [0]), stood[-1] if stood else None, numbers)


def spoilt(chance, line):
    """The line with one part changed, maybe to the same."""
    at = chance.randrange(1, len(line))
    other = chance.choice(["", "x", "X", "abcdefg"]) if isinstance(line[at], str) else chance.randint(-1, 9)
    if line[0] == "put" and at in (4, 5) and chance.random() < 0.3:
        other = None
    return line[:at] + (other,) + line[at + 1:]


class TalesAgainstReference(unittest.TestCase):
    def test_like_the_reference(self):
        chance = random.Random(21)
        longest = 0
        rights = 0
        for case in range(1500):
            froms = [chance.randint(0, at) for at in range(chance.randint(1, 7))]
            tale = []
            for _ in range(chance.randint(0, 40)):
                line = some_line(chance, froms, tale)
                if reference.can_come(froms, tale, line) or chance.random() < 0.02:
                    tale.append(line)
            if tale and case % 2:
                at = chance.randrange(len(tale))
                tale[at] = spoilt(chance, tale[at])
            wrong = reference.first_wrong(froms, tale)
            rights += wrong is None
            longest = max(longest, len(tale) if wrong is None else wrong)
            self.assertIs(Right().shows(froms, tale), wrong is None)
            self.assertEqual([at for at in range(-2, 43) if Wrong(at).shows(froms, tale)],
                             [] if wrong is None else [wrong])
        # The cases are worth something only if many go far.
        self.assertGreater(longest, 25)
        self.assertTrue(300 < rights < 1200, rights)


if __name__ == "__main__":
    unittest.main()

"""Tales judged to the first line that can't come."""

import copy
import itertools
import random
import unittest

import reference
from odd import ODD
from phrasedesk.answers import Right, Wrong
from phrasedesk.desks import Desk
from phrasedesk.errors import BadFroms, BadTale, PhraseError
from phrasedesk.tales import judged

GREAT = 10 ** 60
PHRASE = ("phrase", 0, "hello", 0)
PUT = ("put", 0, 1, "hallo", 0, None, 1)
BACK = ("back", 0, 1, 1)


def some_tale(chance, froms, most):
    """A tale of a desk to which all sorts of deeds were done, and of so many lines at the most."""
    desk, slow = Desk(froms), reference.SlowDesk(froms)
    for _ in range(1000):
        if len(slow.lines) >= most:
            break
        name, *parts = reference.some_deed(chance, slow)
        try:
            getattr(desk, name)(*parts)
        except PhraseError:
            pass
        slow.lines = desk.tale()
    return desk.tale()[:most]


def other_parts(line, at):
    """What may come instead of a part of a line."""
    if isinstance(line[at], str):
        return ["", "abcdefg", "A", "a b", "a~", "zzz", "0", "a\n", "z" * 500]
    near = [0, 1, line[at] - 1, line[at] + 1] if line[at] is not None else [0, 1]
    far = [-1, -2, 6, 8, GREAT, -GREAT]
    return near + far + ([None] if line[0] == "put" and at in (4, 5) else [])


def changed(chance, tale):
    """Tales that come from this one by a line taken out, twice, exchanged, put in, or a part made another one."""
    at, other = chance.randrange(len(tale)), chance.randrange(len(tale))
    found = [tale[:at] + tale[at + 1:], tale[:at] + [tale[at]] + tale[at:], tale[at:], tale[::-1]]
    exchanged = list(tale)
    exchanged[at], exchanged[other] = tale[other], tale[at]
    found.append(exchanged)
    found.append(tale[:at] + [tale[other]] + tale[at:])
    found.append(tale[:at] + [chance.choice([PHRASE, PUT, BACK, ("phrase", 6, "a", at), ("back", 0, 0, 0)])] + tale[at:])
    for part in range(1, len(tale[at])):
        for value in chance.sample(other_parts(tale[at], part), 3):
            found.append(tale[:at] + [tale[at][:part] + (value,) + tale[at][part + 1:]] + tale[at + 1:])
    return [one[:40] for one in found]


class Judged(unittest.TestCase):
    def judges(self, froms, tale):
        """What is told agrees with the reference and with shows; told is the first wrong line or None."""
        before = copy.deepcopy((froms, tale))
        answer = judged(froms, tale)
        wrong = reference.first_wrong(froms, tale)
        self.assertIs(type(answer), Right if wrong is None else Wrong)
        self.assertEqual(getattr(answer, "line", None), wrong)
        self.assertIs(answer.shows(froms, tale), True)
        self.assertIs(Right().shows(froms, tale), wrong is None)
        self.assertEqual([at for at in range(-1, 42) if Wrong(at).shows(froms, tale)], [] if wrong is None else [wrong])
        self.assertEqual((froms, tale), before)
        return wrong

    def test_plain_tales(self):
        self.assertIsNone(self.judges([0], []))
        self.assertIsNone(self.judges([0], [PHRASE]))
        self.assertIsNone(self.judges([0], [PHRASE, PUT, BACK]))
        self.assertEqual(self.judges([0], [PUT]), 0)
        self.assertEqual(self.judges([0], [PHRASE, BACK]), 1)
        self.assertEqual(self.judges([0], [PHRASE, PUT, BACK, BACK]), 3)
        self.assertEqual(self.judges([0], [PHRASE, PUT, BACK, BACK, PHRASE, BACK]), 3)
        self.assertIs(type(judged([0], [PHRASE, BACK]).line), int)

    def test_a_desks_own_tale_with_filling(self):
        desk = Desk([0, 1])
        for text in "aaa":
            desk.phrase(text)
        desk.put(1, 1, "b", 1, None)
        self.assertEqual(desk.fill(1), [0, 2])
        desk.back(2, 1)
        tale = desk.tale()
        for many in range(len(tale) + 1):
            self.assertIsNone(self.judges([0, 1], tale[:many]))

    def test_a_put_that_filling_would_not_make_can_come_by_a_hand(self):
        self.assertIsNone(self.judges([0], [PHRASE, PUT, ("phrase", 1, "hello", 2), ("put", 1, 1, "x", 2, None, 3)]))

    def test_more_than_six_phrases(self):
        tale = [("phrase", at, "a", at) for at in range(9)]
        self.assertIsNone(self.judges([0], tale[:6]))
        self.assertEqual(self.judges([0], tale), 6)

    def test_texts_that_are_none_are_wrong_there(self):
        for text in ("", "abcdefg", "A", "a1", " ", "a\n", "~", "z" * 10000):
            self.assertEqual(self.judges([0], [("phrase", 0, text, 0)]), 0)
            self.assertEqual(self.judges([0], [PHRASE, ("put", 0, 1, text, 0, None, 1), PHRASE]), 1)
        for text in ("a", "z", "abcdef"):
            self.assertIsNone(self.judges([0], [("phrase", 0, text, 0), ("put", 0, 1, text, 0, None, 1)]))

    def test_any_numbers(self):
        for number in (-1, -GREAT, GREAT, 2, 7):
            self.assertEqual(self.judges([0], [("phrase", number, "a", 0)]), 0)
            self.assertEqual(self.judges([0], [("phrase", 0, "a", number)]), 0)
            for at in (1, 2, 4, 5, 6):
                self.assertEqual(self.judges([0], [PHRASE, PUT[:at] + (number,) + PUT[at + 1:]]), 1)
            for at in (1, 2, 3):
                self.assertEqual(self.judges([0], [PHRASE, PUT, BACK[:at] + (number,) + BACK[at + 1:]]), 2)

    def test_tales_of_40_and_41_lines(self):
        tale = [("phrase", 0, "a", 0)] + [("put", 0, 0, "a", None, at, at + 1) for at in range(40)]
        self.assertIsNone(self.judges([0], tale[:40]))
        self.assertIsNone(self.judges([0], tale[:39]))
        self.assertEqual(self.judges([0], tale[:39] + [PHRASE]), 39)
        self.assertEqual(self.judges([0], [PHRASE] * 40), 1)
        for longer in (tale, [PHRASE] * 41, tale * 100):
            with self.assertRaises(BadTale):
                judged([0], longer)

    def test_tales_of_desks_and_what_comes_from_them_by_a_change(self):
        chance = random.Random(61)
        wrongs = {}
        for _ in range(150):
            froms = [chance.randint(0, at) for at in range(chance.randint(1, 7))]
            tale = some_tale(chance, froms, chance.choice([5, 15, 40]))
            self.assertIsNone(self.judges(froms, tale))
            for other in changed(chance, tale):
                wrong = self.judges(froms, other)
                wrongs[wrong] = wrongs.get(wrong, 0) + 1
        # Some changes leave a tale that can come, and wrong lines lie all over.
        self.assertGreater(wrongs[None], 100)
        self.assertGreater(len(wrongs), 35)

    def test_a_tale_by_other_froms(self):
        chance = random.Random(62)
        for _ in range(100):
            froms = [chance.randint(0, at) for at in range(chance.randint(1, 7))]
            tale = some_tale(chance, froms, 20)
            self.judges([chance.randint(0, at) for at in range(chance.randint(1, 7))], tale)

    def test_told_again_it_is_a_new_one(self):
        tale = [PHRASE, BACK]
        first = judged([0], tale)
        first.line = 7
        self.assertEqual(judged([0], tale).line, 1)


class Refused(unittest.TestCase):
    def refuses(self, error, froms, tale):
        before = [list(one) if isinstance(one, list) else one for one in (froms, tale)]
        with self.assertRaises(error) as caught:
            judged(froms, tale)
        self.assertIs(type(caught.exception), error)
        self.assertEqual([froms, tale], before)

    def no_line(self, line):
        """No tale has this, not even behind a line that can't come."""
        with self.subTest(repr(line)[:60]):
            self.refuses(BadTale, [0], [line])
            self.refuses(BadTale, [0], [PHRASE, line])
            self.refuses(BadTale, [0], [BACK, BACK, line, PHRASE])

    def test_froms(self):
        for froms in [one for one in ODD if one != [0]] + [[0] * 8, [1], [0, 2], [-1], [True], [0, True], [0, None],
                                                           [0, GREAT], (0,)]:
            with self.subTest(repr(froms)):
                self.refuses(BadFroms, froms, [])
        for froms in ([0], [0] * 7, list(range(7))):
            self.assertIs(type(judged(froms, [])), Right)

    def test_tales_of_other_kinds(self):
        for tale in [one for one in ODD if one != []] + [(PHRASE,), {PHRASE}, {PHRASE: 1}, 5, "phrase", PHRASE, (), [()]]:
            with self.subTest(repr(tale)):
                self.refuses(BadTale, [0], tale)

    def test_lines_of_other_kinds(self):
        for line in ODD + [0, GREAT, list(PHRASE), list(PUT), list(BACK), "phrase", "put", [PHRASE], (PHRASE,)]:
            self.no_line(line)

    def test_lines_of_another_word(self):
        for word in ODD + ["Phrase", "PUT", "back ", "fill", "", "phrases", b"phrase", 0, ("phrase",), ["put"]]:
            for line in (PHRASE, PUT, BACK):
                self.no_line((word,) + line[1:])
        for line, other in itertools.permutations((PHRASE, PUT, BACK), 2):
            self.no_line(other[:1] + line[1:])

    def test_lines_of_another_length(self):
        for line in (PHRASE, PUT, BACK):
            for many in range(len(line)):
                self.no_line(line[:many])
            for more in (None, 0, "a"):
                self.no_line(line + (more,))
                self.no_line(line[:1] + (0,) + line[1:])

    def test_parts_of_another_kind(self):
        for line in (PHRASE, PUT, BACK):
            for at in range(1, len(line)):
                for value in ODD + [0]:
                    is_text = line[0] != "back" and at == {"phrase": 2, "put": 3}[line[0]]
                    may_be_none = line[0] == "put" and at in (4, 5)
                    if is_text and isinstance(value, str) or not is_text and value == 0 and type(value) is int:
                        continue
                    if may_be_none and value is None:
                        continue
                    self.no_line(line[:at] + (value,) + line[at + 1:])

    def test_what_is_just_within_goes(self):
        for line in (("put", 0, 0, "", None, None, -1), ("put", -GREAT, GREAT, "~" * 1000, GREAT, -GREAT, 0),
                     ("phrase", -1, "", -1), ("back", -1, -1, -1)):
            self.assertEqual(judged([0], [line]).line, 0)

    def test_a_tale_that_holds_itself(self):
        tale = [PHRASE]
        tale.append(tale)
        with self.assertRaises(BadTale):
            judged([0], tale)

    def test_of_two_faults_the_one_that_is_told_first(self):
        for froms, tale in itertools.product([[], True, [1, 0], None], [None, [None], [PHRASE] * 41, (), [PHRASE[:3]]]):
            self.refuses(BadFroms, froms, tale)
            self.refuses(BadFroms, froms, [PHRASE])
            self.refuses(BadTale, [0], tale)


if __name__ == "__main__":
    unittest.main()

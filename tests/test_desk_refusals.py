"""What a desk refuses, by which class, of two faults which first, and that nothing is changed then."""

import itertools
import unittest

import reference
from odd import ODD
from phrasedesk.desks import Desk
from phrasedesk.errors import (BadFroms, BadHands, BadPhrase, BadSeen, BadText, BadTongue, Nothing, Overtaken, PhraseError,
                               TooMany)

GREAT = 10 ** 60
FROMS = [0, 1, 0]
BAD_TEXTS = ["", "abcdefg", "A", "aB", "a b", " a", "a ", "a\n", "\n", "a1", "`", "{", "~", "@", "[", "z" * 5000, "\x00"]
NOT_PHRASES = [2, 3, 5, 6, -1, -2, GREAT, -GREAT]
NOT_TONGUES = [4, 5, 7, 8, -1, -4, GREAT, -GREAT]


def made():
    """Two phrases; the numbers of phrase 0: source 0 and 4, tongue 1: 1 and 5 (taken back), tongue 2: 2."""
    desk = Desk(FROMS)
    desk.phrase("hello")
    desk.put(0, 1, "hallo", 0, None)
    desk.put(0, 2, "hej", 1, None)
    desk.phrase("more")
    desk.put(0, 0, "hi", None, 0)
    desk.put(0, 1, "he", 4, 1)
    desk.back(0, 1)
    return desk


class Refused(unittest.TestCase):
    def setUp(self):
        self.desk = made()
        self.before = reference.all_told(self.desk, 2, 4)

    def tearDown(self):
        """Whatever was refused, nothing is changed, and the next number is the same."""
        self.assertEqual(reference.all_told(self.desk, 2, 4), self.before)
        self.assertEqual(self.desk.put(1, 1, "mehr", 3, None), 6)
        self.assertEqual(self.desk.phrase("a"), 2)

    def refuses(self, error, name, *parts):
        with self.subTest(name=name, parts=repr(parts)[:80]):
            with self.assertRaises(PhraseError) as caught:
                getattr(self.desk, name)(*parts)
            self.assertIs(type(caught.exception), error)

    def test_phrases(self):
        for phrase in ODD + NOT_PHRASES:
            self.refuses(BadPhrase, "put", phrase, 1, "a", 0, 1)
            self.refuses(BadPhrase, "back", phrase, 1)
            self.refuses(BadPhrase, "now", phrase, 1)
            self.refuses(BadPhrase, "all_put", phrase, 1)
            self.refuses(BadPhrase, "row", phrase)
            self.refuses(BadPhrase, "likes", phrase, 1)

    def test_tongues(self):
        for tongue in ODD + NOT_TONGUES:
            self.refuses(BadTongue, "put", 0, tongue, "a", 0, 1)
            self.refuses(BadTongue, "put", 0, tongue, "a", None, 4)
            self.refuses(BadTongue, "back", 0, tongue)
            self.refuses(BadTongue, "now", 0, tongue)
            self.refuses(BadTongue, "all_put", 0, tongue)
        for tongue in ODD + NOT_TONGUES + [0]:
            self.refuses(BadTongue, "likes", 0, tongue)
            self.refuses(BadTongue, "fill", tongue)

    def test_texts(self):
        for text in [one for one in ODD if one != "ab"] + BAD_TEXTS + [0, 5, ["a"], ("a", "b"), b"a", {"a": 1}, {"a"}]:
            self.refuses(BadText, "phrase", text)
            self.refuses(BadText, "put", 0, 1, text, 0, 1)
            self.refuses(BadText, "put", 0, 0, text, None, 4)

    def test_seen(self):
        for seen in ODD + [2, 3, 1, 5, 6, 7, -1, GREAT, -GREAT]:
            # 1 and 5 are of tongue 1, 2 of tongue 2, 3 of phrase 1, and 6 is not put yet.
            self.refuses(BadSeen, "put", 0, 1, "a", seen, 1)
            self.refuses(BadSeen, "put", 0, 3, "a", seen, None)
        for seen in ODD + [0, 2, 3, 4, 6, -1]:
            self.refuses(BadSeen, "put", 0, 2, "a", seen, 2)
        for seen in ODD + [0, 1, 2, 4, 5, 6, -1]:
            self.refuses(BadSeen, "put", 1, 1, "a", seen, None)
        for seen in ODD + [0, 1, 2, 3, -1]:
            self.refuses(BadSeen, "put", 1, 2, "a", seen, None)
        for seen in [one for one in ODD if one is not None] + [0, 1, 3, 4, 5, 6, -1]:
            self.refuses(BadSeen, "put", 0, 0, "a", seen, 4)

    def test_over(self):
        for over in ODD + [0, 2, 4, 5, 6, 7, -1, GREAT, -GREAT]:
            self.refuses(Overtaken, "put", 0, 1, "a", 0, over)
        for over in ODD + [0, 1, 2, 3, 5, 6, -1]:
            self.refuses(Overtaken, "put", 0, 0, "a", None, over)
        for over in [one for one in ODD if one is not None] + [0, 1, 2, 3, 4, 5, 6, -1]:
            self.refuses(Overtaken, "put", 0, 3, "a", 0, over)
            self.refuses(Overtaken, "put", 1, 1, "a", 3, over)

    def test_nothing(self):
        for phrase, tongue in ((1, 0), (1, 1), (1, 2), (1, 3), (0, 3)):
            self.refuses(Nothing, "back", phrase, tongue)

    def test_hands(self):
        for hands in ODD + [0, -1, 5, 6, GREAT, -GREAT]:
            self.refuses(BadHands, "rounds", hands)

    def test_of_two_faults_at_a_put_the_one_that_is_told_first(self):
        wrong = [[None, True, 2, -1, [0]], [None, True, 4, -1, "1"], [None, "", "abcdefg", "A", ["a"]],
                 [None, False, 1, 5, [0]], [None, True, 0, 5, "1"]]
        good, errors = (0, 1, "a", 4, 1), (BadPhrase, BadTongue, BadText, BadSeen, Overtaken)
        for parts in itertools.product(*[[(value, True) for value in values] + [(right, False)]
                                         for values, right in zip(wrong, good)]):
            faults = [at for at, (_, bad) in enumerate(parts) if bad]
            if faults:
                with self.assertRaises(PhraseError) as caught:
                    self.desk.put(*[value for value, _ in parts])
                self.assertIs(type(caught.exception), errors[faults[0]])

    def test_of_two_faults_elsewhere_the_one_that_is_told_first(self):
        for phrase, tongue in itertools.product([None, True, 2, -1, "0"], [None, True, 4, -1, "1"]):
            for name in ("back", "now", "all_put", "likes"):
                self.refuses(BadPhrase, name, phrase, tongue)
            self.refuses(BadPhrase, "likes", phrase, 0)
        for tongue in (None, True, 4, -1, "1"):
            # Nothing stands of phrase 1 that could be taken back.
            self.refuses(BadTongue, "back", 1, tongue)
            self.refuses(BadPhrase, "back", 2, tongue)


class JustWithin(unittest.TestCase):
    def test_puts(self):
        for parts in ((0, 1, "a", 0, 1), (0, 1, "abcdef", 4, 1), (0, 0, "z", None, 4), (0, 2, "a", 1, 2), (0, 2, "a", 5, 2),
                      (0, 3, "zzzzzz", 0, None), (0, 3, "a", 4, None), (1, 1, "a", 3, None), (1, 0, "az", None, 3)):
            desk = made()
            self.assertEqual(desk.put(*parts), 6)
            self.assertEqual(desk.now(*parts[:2]), (6, parts[2]))

    def test_all_else(self):
        desk = made()
        for phrase, tongue in itertools.product((0, 1), range(4)):
            desk.now(phrase, tongue), desk.all_put(phrase, tongue), desk.row(phrase)
        for tongue in (1, 2, 3):
            self.assertEqual((desk.likes(0, tongue), desk.likes(1, tongue), desk.fill(tongue)), ([], [], []))
        for hands in (1, 2, 3, 4):
            self.assertTrue(desk.rounds(hands).shows(FROMS, desk.old(), hands))
        self.assertEqual([desk.back(0, 0), desk.back(0, 1), desk.back(0, 2)], [4, 1, 2])
        self.assertEqual([desk.phrase(text) for text in ("a", "z", "zzzzzz", "abcdef")], [2, 3, 4, 5])


class Froms(unittest.TestCase):
    def test_froms(self):
        wrong = [one for one in ODD if one != [0]] + [[0] * 8, list(range(8)), [0] * 5000, [1], [0, 2], [0, 0, 3], [-1],
                                                      [0, -1], [True], [False], [0, True], [0, None], [0, "0"], [0, [0]],
                                                      [0, GREAT], (0,), (0, 1), "01", {0: 0}]
        for froms in wrong:
            with self.subTest(repr(froms)[:40]):
                with self.assertRaises(PhraseError) as caught:
                    Desk(froms)
                self.assertIs(type(caught.exception), BadFroms)

    def test_just_within(self):
        for froms in ([0], [0, 1], [0, 0], [0] * 7, list(range(7)), [0, 0, 1, 1, 2, 4, 6]):
            desk = Desk(froms)
            desk.phrase("a")
            self.assertEqual(desk.row(0), [(0, None)] + [None] * len(froms))

    def test_froms_are_copied(self):
        froms = [0, 1]
        desk = Desk(froms)
        desk.phrase("a")
        froms[1] = 0
        froms.append(0)
        self.assertEqual(desk.put(0, 1, "b", 0, None), 1)
        self.assertEqual(desk.put(0, 2, "c", 1, None), 2)
        self.assertEqual(desk.row(0), [(0, None), (1, 0), (2, 1)])
        self.assertEqual(froms, [0, 0, 0])


class TooManyPhrases(unittest.TestCase):
    def test_a_seventh(self):
        desk = Desk([0])
        for _ in range(6):
            desk.phrase("a")
        before = reference.all_told(desk, 6, 2)
        for text in ("a", "b", "abcdef"):
            with self.assertRaises(PhraseError) as caught:
                desk.phrase(text)
            self.assertIs(type(caught.exception), TooMany)
        for text in [one for one in ODD if one != "ab"] + BAD_TEXTS:
            with self.assertRaises(PhraseError) as caught:
                desk.phrase(text)
            self.assertIs(type(caught.exception), BadText)
        self.assertEqual(reference.all_told(desk, 6, 2), before)
        with self.assertRaises(BadPhrase):
            desk.row(6)
        self.assertEqual(desk.put(0, 1, "b", 0, None), 6)

    def test_a_desk_without_phrases(self):
        desk = Desk([0])
        for name, parts in (("put", (0, 0, "a", None, None)), ("back", (0, 0)), ("now", (0, 0)), ("all_put", (0, 0)),
                            ("row", (0,)), ("likes", (0, 1))):
            with self.assertRaises(BadPhrase):
                getattr(desk, name)(*parts)
        for tongue in (0, 2, -1, True, None):
            with self.assertRaises(BadTongue):
                desk.fill(tongue)
        with self.assertRaises(BadHands):
            desk.rounds(0)
        self.assertEqual(desk.tale(), [])


if __name__ == "__main__":
    unittest.main()

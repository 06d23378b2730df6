"""Long runs of deeds at desks, against a slow desk that keeps nothing but its tale."""

import copy
import random
import unittest

import reference
from phrasedesk import errors
from phrasedesk.answers import Right
from phrasedesk.desks import Desk
from phrasedesk.tales import judged
from phrasedesk.told import told


class Runs(unittest.TestCase):
    def agrees(self, desk, slow):
        expected = slow.everything()
        found = reference.all_told(desk, slow.phrases(), len(slow.froms) + 1)
        self.assertEqual(found, expected)
        return found

    def does(self, desk, slow, deed):
        """Does this at both, which tell alike or refuse alike; told is the refusal's name, None for none."""
        name, *parts = deed
        refusal = slow.refusal(*deed)
        method = getattr(desk, name)
        if refusal is None:
            self.assertEqual(method(*parts), slow.do(*deed), deed)
            return None
        before = reference.all_told(desk, slow.phrases(), len(slow.froms) + 1)
        with self.assertRaises(errors.PhraseError) as caught:
            method(*parts)
        self.assertEqual(type(caught.exception).__name__, refusal, deed)
        self.assertEqual(reference.all_told(desk, slow.phrases(), len(slow.froms) + 1), before)
        return refusal

    def runs(self, froms, chance, deeds):
        """A run; told is what was refused in it, and how many were filled."""
        desk, slow = Desk(froms), reference.SlowDesk(froms)
        refused, filled = {}, 0
        self.agrees(desk, slow)
        for _ in range(deeds):
            deed = reference.some_deed(chance, slow)
            before = len(slow.lines)
            refusal = self.does(desk, slow, deed)
            refused[refusal] = refused.get(refusal, 0) + 1
            filled += (len(slow.lines) - before) * (deed[0] == "fill")
            found = self.agrees(desk, slow)
            self.old_as_told(desk, slow, found)
        for hands in (1, 2, 3, 4):
            self.assertTrue(desk.rounds(hands).shows(froms, slow.old(), hands))
        return refused, filled

    def old_as_told(self, desk, slow, found):
        for phrase, tongue in slow.places():
            answer = told(slow.froms, desk.row(phrase), tongue)
            self.assertEqual(hasattr(answer, "chain"), (phrase, tongue) in found["old",])

    def test_runs_at_desks_of_every_shape(self):
        chance = random.Random(31)
        refused, filled = {}, 0
        for tongues in range(2, 9):
            shapes = [list(range(tongues - 1)), [0] * (tongues - 1)]
            shapes += [[chance.randint(0, at) for at in range(tongues - 1)] for _ in range(3)]
            for froms in shapes:
                some, more = self.runs(froms, chance, 100)
                filled += more
                for name in some:
                    refused[name] = refused.get(name, 0) + some[name]
        # The runs are worth something only if they go through everything.
        self.assertGreater(filled, 50)
        for name in (None, "BadPhrase", "BadTongue", "BadText", "BadSeen", "Overtaken", "Nothing", "TooMany"):
            self.assertGreater(refused.get(name, 0), 4, name)

    def test_a_very_long_run(self):
        self.runs([0, 1], random.Random(32), 250)

    def test_the_tale_and_each_beginning_of_it_is_right(self):
        chance = random.Random(33)
        for _ in range(40):
            froms = [chance.randint(0, at) for at in range(chance.randint(1, 7))]
            desk, slow = Desk(froms), reference.SlowDesk(froms)
            while len(slow.lines) < 40:
                self.does(desk, slow, reference.some_deed(chance, slow))
            tale = desk.tale()[:40]
            for many in range(41):
                self.assertIs(type(judged(froms, tale[:many])), Right)

    def test_told_twice_is_alike_and_new(self):
        chance = random.Random(34)
        for _ in range(20):
            froms = [chance.randint(0, at) for at in range(chance.randint(1, 7))]
            handed = list(froms)
            desk, slow = Desk(handed), reference.SlowDesk(froms)
            handed.clear()
            for _ in range(40):
                self.does(desk, slow, reference.some_deed(chance, slow))
            first = reference.all_told(desk, slow.phrases(), len(froms) + 1)
            kept = copy.deepcopy(first)
            for one in first.values():
                if isinstance(one, list):
                    one.append("spoilt")
                    one.reverse()
            answer = desk.rounds(2)
            for row in answer.rows:
                row.clear()
            self.assertEqual(reference.all_told(desk, slow.phrases(), len(froms) + 1), kept)
            self.agrees(desk, slow)
            self.assertTrue(desk.rounds(2).shows(froms, slow.old(), 2))

    def test_two_desks_share_nothing(self):
        froms = [0, 1]
        one, other = Desk(froms), Desk(froms)
        one.phrase("a")
        one.put(0, 1, "b", 0, None)
        self.assertEqual((other.tale(), other.old(), other.fill(1)), ([], [], []))
        self.assertEqual((other.phrase("c"), other.row(0)), (0, [(0, None), None, None]))
        self.assertEqual(one.row(0), [(0, None), (1, 0), None])


if __name__ == "__main__":
    unittest.main()

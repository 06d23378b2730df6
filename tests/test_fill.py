"""Like texts, and the filling of a tongue."""

import random
import unittest

import reference
from phrasedesk.answers import Right
from phrasedesk.desks import Desk
from phrasedesk.tales import judged


def desk_of(froms, *texts):
    """A desk with phrases of these texts."""
    desk = Desk(froms)
    for text in texts:
        desk.phrase(text)
    return desk


def put_fresh(desk, froms, phrase, tongue, text):
    """Put from what stands above, over what stands."""
    above, stands = None if tongue == 0 else desk.now(phrase, froms[tongue - 1])[0], desk.now(phrase, tongue)
    return desk.put(phrase, tongue, text, above, stands and stands[0])


class Likes(unittest.TestCase):
    def test_none_like(self):
        desk = desk_of([0], "a", "b")
        self.assertEqual(desk.likes(0, 1), [])
        desk.put(1, 1, "x", 1, None)
        self.assertEqual(desk.likes(0, 1), [])

    def test_of_other_phrases_only(self):
        desk = desk_of([0], "a", "a")
        desk.put(0, 1, "x", 0, None)
        self.assertEqual(desk.likes(0, 1), [])
        self.assertEqual(desk.likes(1, 1), ["x"])

    def test_each_once_and_rising_by_letters(self):
        desk = desk_of([0], *"aaaaaa")
        for phrase, text in enumerate(["zz", "b", "ab", "b", "a"]):
            put_fresh(desk, [0], phrase, 1, text)
        self.assertEqual(desk.likes(5, 1), ["a", "ab", "b", "zz"])
        self.assertEqual(desk.likes(4, 1), ["ab", "b", "zz"])
        self.assertEqual(desk.likes(1, 1), ["a", "ab", "b", "zz"])
        self.assertEqual(desk.likes(0, 1), ["a", "ab", "b"])

    def test_only_fresh_texts(self):
        froms = [0, 1]
        desk = desk_of(froms, "a", "a")
        for phrase in (0, 1):
            put_fresh(desk, froms, phrase, 1, "b")
        put_fresh(desk, froms, 0, 2, "c")
        self.assertEqual(desk.likes(1, 2), ["c"])
        # Broken itself, then broken only above it: not fresh either way.
        desk.put(0, 1, "b", 0, desk.now(0, 1)[0])
        self.assertEqual(desk.likes(1, 2), [])
        put_fresh(desk, froms, 0, 2, "d")
        self.assertEqual(desk.likes(1, 2), ["d"])
        desk.put(0, 0, "a", None, 0)
        self.assertEqual(desk.row(0)[2][1], desk.row(0)[1][0])
        self.assertEqual(desk.likes(1, 2), [])
        desk.back(0, 0)
        self.assertEqual(desk.likes(1, 2), ["d"])

    def test_the_same_text_in_the_tongue_that_it_is_put_from_not_in_the_source(self):
        froms = [0, 1]
        desk = desk_of(froms, "a", "a", "b")
        put_fresh(desk, froms, 0, 1, "m")
        put_fresh(desk, froms, 1, 1, "n")
        put_fresh(desk, froms, 2, 1, "m")
        put_fresh(desk, froms, 1, 2, "x")
        self.assertEqual(desk.likes(0, 2), [])
        put_fresh(desk, froms, 2, 2, "y")
        self.assertEqual(desk.likes(0, 2), ["y"])

    def test_of_what_stands_now(self):
        desk = desk_of([0], "a", "b", "b")
        put_fresh(desk, [0], 0, 1, "x")
        put_fresh(desk, [0], 1, 1, "y")
        self.assertEqual(desk.likes(2, 1), ["y"])
        desk.put(2, 0, "a", None, 2)
        self.assertEqual(desk.likes(2, 1), ["x"])
        put_fresh(desk, [0], 0, 1, "z")
        self.assertEqual(desk.likes(2, 1), ["z"])
        desk.back(0, 1)
        self.assertEqual(desk.likes(2, 1), ["x"])
        desk.back(0, 1)
        self.assertEqual(desk.likes(2, 1), [])

    def test_none_stands_above(self):
        desk = desk_of([0, 1], "a", "a", "a")
        self.assertEqual(desk.likes(0, 2), [])
        put_fresh(desk, [0, 1], 1, 1, "b")
        put_fresh(desk, [0, 1], 1, 2, "c")
        self.assertEqual(desk.likes(0, 2), [])
        # Nor do two phrases that have nothing above count as having the same there.
        desk.back(1, 1)
        self.assertEqual(desk.likes(0, 2), [])

    def test_of_a_phrase_that_is_old_above_too(self):
        froms = [0, 1]
        desk = desk_of(froms, "a", "a")
        for phrase in (0, 1):
            put_fresh(desk, froms, phrase, 1, "b")
        put_fresh(desk, froms, 1, 2, "c")
        desk.put(0, 0, "d", None, 0)
        self.assertEqual(desk.likes(0, 2), ["c"])


class Fill(unittest.TestCase):
    def test_none_like(self):
        desk = desk_of([0], "a", "b")
        desk.put(1, 1, "x", 1, None)
        self.assertEqual(desk.fill(1), [])
        self.assertIsNone(desk.now(0, 1))
        self.assertEqual(len(desk.tale()), 3)

    def test_one_like(self):
        desk = desk_of([0], "a", "b", "a", "a")
        desk.put(2, 1, "x", 2, None)
        self.assertEqual(desk.fill(1), [0, 3])
        self.assertEqual(desk.tale()[5:], [("put", 0, 1, "x", 0, None, 5), ("put", 3, 1, "x", 3, None, 6)])
        self.assertEqual([desk.now(phrase, 1) for phrase in range(4)], [(5, "x"), None, (4, "x"), (6, "x")])
        self.assertEqual(desk.old(), [(1, 1)])
        self.assertEqual(desk.put(1, 1, "y", 1, None), 7)
        self.assertIs(type(judged([0], desk.tale())), Right)

    def test_two_like(self):
        desk = desk_of([0], "a", "a", "a")
        desk.put(0, 1, "x", 0, None)
        desk.put(1, 1, "y", 1, None)
        self.assertEqual(desk.fill(1), [])
        self.assertIsNone(desk.now(2, 1))
        desk.put(1, 1, "x", 1, 4)
        self.assertEqual(desk.fill(1), [2])

    def test_filled_again_none(self):
        desk = desk_of([0], "a", "a", "a")
        desk.put(1, 1, "x", 1, None)
        self.assertEqual(desk.fill(1), [0, 2])
        tale = desk.tale()
        self.assertEqual(desk.fill(1), [])
        self.assertEqual(desk.tale(), tale)

    def test_over_what_stands(self):
        desk = desk_of([0], "a", "b")
        desk.put(0, 1, "x", 0, None)
        desk.put(1, 1, "y", 1, None)
        desk.put(1, 0, "a", None, 1)
        self.assertEqual(desk.fill(1), [1])
        self.assertEqual(desk.tale()[-1], ("put", 1, 1, "x", 4, 3, 5))
        self.assertEqual(desk.all_put(1, 1), [(3, "y"), (5, "x")])
        self.assertEqual(desk.back(1, 1), 5)
        self.assertEqual(desk.now(1, 1), (3, "y"))

    def test_one_that_already_has_the_like_text_is_put_anew_if_broken(self):
        desk = desk_of([0], "a", "a")
        desk.put(0, 1, "x", 0, None)
        desk.put(1, 1, "x", 1, None)
        desk.put(1, 0, "a", None, 1)
        self.assertEqual(desk.fill(1), [1])
        self.assertEqual(desk.now(1, 1), (5, "x"))
        self.assertEqual(desk.old(), [])

    def test_a_fresh_one_is_left_though_another_text_is_like(self):
        desk = desk_of([0], "a", "a")
        desk.put(0, 1, "x", 0, None)
        desk.put(1, 1, "y", 1, None)
        self.assertEqual((desk.likes(0, 1), desk.likes(1, 1)), (["y"], ["x"]))
        self.assertEqual(desk.fill(1), [])

    def test_old_above_is_left(self):
        froms = [0, 1]
        desk = desk_of(froms, "a", "a")
        for phrase in (0, 1):
            put_fresh(desk, froms, phrase, 1, "b")
        put_fresh(desk, froms, 1, 2, "c")
        desk.put(0, 0, "d", None, 0)
        # Broken in 2, and a like text, but 1 is old.
        self.assertEqual(desk.likes(0, 2), ["c"])
        self.assertEqual(desk.fill(2), [])
        desk.back(0, 0)
        self.assertEqual(desk.fill(2), [0])

    def test_old_but_not_broken_is_left(self):
        froms = [0, 1]
        desk = desk_of(froms, "a", "a")
        for phrase in (0, 1):
            put_fresh(desk, froms, phrase, 1, "b")
            put_fresh(desk, froms, phrase, 2, "c" * (phrase + 1))
        desk.put(0, 0, "d", None, 0)
        self.assertEqual(desk.old(), [(0, 1), (0, 2)])
        self.assertEqual(desk.likes(0, 2), ["cc"])
        self.assertEqual(desk.fill(2), [])

    def test_old_far_above_is_left(self):
        froms = [0, 1, 2]
        desk = desk_of(froms, "a", "a")
        for phrase in (0, 1):
            put_fresh(desk, froms, phrase, 1, "b")
            put_fresh(desk, froms, phrase, 2, "c")
        put_fresh(desk, froms, 1, 3, "d")
        desk.put(0, 0, "e", None, 0)
        self.assertEqual(desk.likes(0, 3), ["d"])
        self.assertEqual(desk.fill(3), [])

    def test_tongue_by_tongue(self):
        froms = [0, 1]
        desk = desk_of(froms, "a", "a")
        put_fresh(desk, froms, 0, 1, "b")
        put_fresh(desk, froms, 0, 2, "c")
        self.assertEqual(desk.fill(2), [])
        self.assertEqual(desk.fill(1), [1])
        self.assertEqual(desk.row(1), [(1, None), (4, 1), None])
        self.assertEqual(desk.fill(2), [1])
        self.assertEqual(desk.row(1), [(1, None), (4, 1), (5, 4)])
        self.assertEqual(desk.old(), [])

    def test_filled_texts_are_like_texts_themselves(self):
        desk = desk_of([0], "a", "a", "a")
        desk.put(2, 1, "x", 2, None)
        self.assertEqual(desk.fill(1), [0, 1])
        # The one that they came from is broken now: what was filled is like to it.
        desk.put(2, 0, "b", None, 2)
        desk.put(2, 0, "a", None, 6)
        self.assertEqual(desk.likes(2, 1), ["x"])
        self.assertEqual(desk.fill(1), [2])
        self.assertEqual(desk.tale()[-1], ("put", 2, 1, "x", 7, 3, 8))

    def test_what_is_told_may_be_changed(self):
        desk = desk_of([0], "a", "a")
        desk.put(0, 1, "x", 0, None)
        desk.likes(1, 1).append("y")
        self.assertEqual(desk.likes(1, 1), ["x"])
        told = desk.fill(1)
        told.append(7)
        self.assertEqual(desk.fill(1), [])

    def test_many_desks(self):
        chance = random.Random(41)
        filled = 0
        for _ in range(150):
            froms = [chance.randint(0, at) for at in range(chance.randint(1, 3))]
            desk, slow = desk_of(froms, *["ab"[chance.random() < 0.2] for _ in range(6)]), reference.SlowDesk(froms)
            slow.lines = desk.tale()
            for _ in range(30):
                phrase, tongue = chance.randrange(6), chance.randint(0, len(froms))
                if tongue == 0 and chance.random() < 0.7 or tongue and desk.now(phrase, froms[tongue - 1]) is None:
                    continue
                put_fresh(desk, froms, phrase, tongue, chance.choice("xxxy"))
                slow.lines = desk.tale()
                if chance.random() < 0.3:
                    tongue = chance.randint(1, len(froms))
                    found = desk.fill(tongue)
                    filled += len(found)
                    self.assertEqual(found, slow.do_fill(tongue))
                    self.assertEqual(reference.all_told(desk, 6, len(froms) + 1), slow.everything())
        self.assertGreater(filled, 200)


if __name__ == "__main__":
    unittest.main()

"""A desk: phrases, puts, taking back, and what it tells of them."""

import unittest

from phrasedesk.answers import Rounds
from phrasedesk.desks import Desk
from phrasedesk.errors import Nothing, Overtaken

LINE = [0, 1, 2]


def started(froms=LINE):
    """A desk with one phrase that is put in tongues 1 and 2."""
    desk = Desk(froms)
    desk.phrase("hello")
    desk.put(0, 1, "hallo", 0, None)
    desk.put(0, 2, "hej", 1, None)
    return desk


class Interface(unittest.TestCase):
    def test_each_method_stands_in_the_class_itself(self):
        for name in ("phrase", "put", "back", "now", "all_put", "row", "old", "likes", "fill", "rounds", "tale"):
            self.assertTrue(callable(vars(Desk)[name]), name)


class Empty(unittest.TestCase):
    def test_at_first_no_phrases(self):
        for froms in ([0], LINE, [0] * 7, list(range(7))):
            desk = Desk(froms)
            self.assertEqual((desk.old(), desk.tale()), ([], []))
            for tongue in range(1, len(froms) + 1):
                self.assertEqual(desk.fill(tongue), [])
            for hands in (1, 2, 3, 4):
                answer = desk.rounds(hands)
                self.assertIs(type(answer), Rounds)
                self.assertEqual(answer.rows, [])
                self.assertGreaterEqual(answer.depth, 0)
                self.assertTrue(answer.shows(froms, [], hands))
            self.assertEqual(desk.tale(), [])


class Phrases(unittest.TestCase):
    def test_phrases_are_numbered_by_themselves_and_their_texts_with_all_others(self):
        desk = started()
        self.assertEqual(desk.phrase("more"), 1)
        self.assertEqual(desk.now(1, 0), (3, "more"))
        self.assertEqual(desk.put(1, 1, "mehr", 3, None), 4)
        self.assertEqual(desk.phrase("more"), 2)
        self.assertEqual(desk.now(2, 0), (5, "more"))
        self.assertEqual(desk.now(0, 0), (0, "hello"))

    def test_six_phrases(self):
        desk = Desk([0])
        self.assertEqual([desk.phrase("a") for _ in range(6)], list(range(6)))
        self.assertEqual([desk.now(at, 0) for at in range(6)], [(at, "a") for at in range(6)])
        self.assertEqual(desk.put(5, 1, "b", 5, None), 6)

    def test_a_new_phrase_stands_only_in_the_source(self):
        desk = Desk(LINE)
        desk.phrase("a")
        self.assertEqual(desk.row(0), [(0, None), None, None, None])
        self.assertEqual([desk.now(0, tongue) for tongue in range(4)], [(0, "a"), None, None, None])
        self.assertEqual([desk.all_put(0, tongue) for tongue in range(4)], [[(0, "a")], [], [], []])
        self.assertEqual(desk.old(), [(0, 1), (0, 2), (0, 3)])


class Puts(unittest.TestCase):
    def test_what_is_put_stands(self):
        desk = started()
        self.assertEqual(desk.put(0, 3, "hei", 2, None), 3)
        self.assertEqual(desk.now(0, 3), (3, "hei"))
        self.assertEqual(desk.row(0), [(0, None), (1, 0), (2, 1), (3, 2)])
        self.assertEqual(desk.old(), [])

    def test_a_put_over_what_stands(self):
        desk = started()
        self.assertEqual(desk.put(0, 1, "holla", 0, 1), 3)
        self.assertEqual(desk.now(0, 1), (3, "holla"))
        self.assertEqual(desk.all_put(0, 1), [(1, "hallo"), (3, "holla")])
        self.assertEqual(desk.row(0), [(0, None), (3, 0), (2, 1), None])
        self.assertEqual(desk.old(), [(0, 2), (0, 3)])

    def test_the_source_is_put_from_none(self):
        desk = started()
        self.assertEqual(desk.put(0, 0, "hi", None, 0), 3)
        self.assertEqual(desk.row(0), [(3, None), (1, 0), (2, 1), None])
        self.assertEqual(desk.all_put(0, 0), [(0, "hello"), (3, "hi")])
        self.assertEqual(desk.old(), [(0, 1), (0, 2), (0, 3)])
        self.assertEqual(desk.put(0, 1, "hallo", 3, 1), 4)
        self.assertEqual(desk.old(), [(0, 2), (0, 3)])

    def test_a_put_from_an_older_one_is_old_at_once(self):
        desk = started()
        desk.put(0, 0, "hi", None, 0)
        self.assertEqual(desk.put(0, 1, "gruezi", 0, 1), 4)
        self.assertEqual(desk.row(0)[1], (4, 0))
        self.assertIn((0, 1), desk.old())

    def test_a_put_from_one_that_was_taken_back(self):
        desk = started()
        desk.back(0, 1)
        self.assertEqual(desk.put(0, 2, "tjena", 1, 2), 3)
        self.assertEqual(desk.row(0), [(0, None), None, (3, 1), None])
        self.assertEqual(desk.put(0, 1, "servus", 0, None), 4)
        self.assertEqual(desk.old(), [(0, 2), (0, 3)])

    def test_the_same_text_again_is_another_one(self):
        desk = started()
        self.assertEqual(desk.put(0, 1, "hallo", 0, 1), 3)
        self.assertEqual(desk.now(0, 1), (3, "hallo"))
        self.assertIn((0, 2), desk.old())

    def test_overtaken(self):
        desk = started()
        desk.put(0, 1, "holla", 0, 1)
        tale = desk.tale()
        for over in (None, 0, 1, 2, 4, 5, -1, 10 ** 40):
            with self.assertRaises(Overtaken):
                desk.put(0, 1, "other", 0, over)
        for over in (0, 1, 2, 3, 4, -1):
            with self.assertRaises(Overtaken):
                desk.put(0, 3, "other", 2, over)
        self.assertEqual(desk.tale(), tale)
        self.assertEqual(desk.all_put(0, 1), [(1, "hallo"), (3, "holla")])
        self.assertEqual(desk.all_put(0, 3), [])
        self.assertEqual(desk.put(0, 1, "other", 0, 3), 4)

    def test_two_hands_that_saw_the_same(self):
        desk = started()
        desk.put(0, 0, "hi", None, 0)
        with self.assertRaises(Overtaken):
            desk.put(0, 0, "ho", None, 0)
        self.assertEqual(desk.now(0, 0), (3, "hi"))


class Back(unittest.TestCase):
    def test_the_one_ahead_stands_again_down_to_none(self):
        desk = started()
        desk.put(0, 1, "b", 0, 1)
        desk.put(0, 1, "c", 0, 3)
        self.assertEqual(desk.back(0, 1), 4)
        self.assertEqual(desk.now(0, 1), (3, "b"))
        self.assertEqual(desk.back(0, 1), 3)
        self.assertEqual(desk.now(0, 1), (1, "hallo"))
        self.assertEqual(desk.row(0)[1], (1, 0))
        self.assertEqual(desk.back(0, 1), 1)
        self.assertIsNone(desk.now(0, 1))
        with self.assertRaises(Nothing):
            desk.back(0, 1)
        self.assertEqual(desk.all_put(0, 1), [(1, "hallo"), (3, "b"), (4, "c")])

    def test_what_stood_ahead_is_not_what_was_put_ahead(self):
        desk = started()
        desk.put(0, 1, "b", 0, 1)
        desk.back(0, 1)
        desk.put(0, 1, "c", 0, 1)
        self.assertEqual(desk.back(0, 1), 4)
        self.assertEqual(desk.now(0, 1), (1, "hallo"))

    def test_numbers_go_on(self):
        desk = started()
        desk.back(0, 2)
        self.assertEqual(desk.put(0, 2, "hej", 1, None), 3)
        desk.back(0, 2)
        desk.phrase("a")
        self.assertEqual(desk.now(1, 0), (4, "a"))

    def test_the_first_of_the_source_stays(self):
        desk = started()
        with self.assertRaises(Nothing):
            desk.back(0, 0)
        desk.put(0, 0, "hi", None, 0)
        desk.put(0, 0, "ho", None, 3)
        self.assertEqual([desk.back(0, 0), desk.back(0, 0)], [4, 3])
        for _ in range(2):
            with self.assertRaises(Nothing):
                desk.back(0, 0)
        self.assertEqual(desk.now(0, 0), (0, "hello"))
        self.assertEqual(desk.all_put(0, 0), [(0, "hello"), (3, "hi"), (4, "ho")])
        self.assertEqual(desk.put(0, 0, "ha", None, 0), 5)

    def test_nothing_where_none_was_ever_put(self):
        desk = started()
        with self.assertRaises(Nothing):
            desk.back(0, 3)

    def test_taken_back_makes_fresh_again(self):
        desk = started([0, 1])
        self.assertEqual(desk.old(), [])
        desk.put(0, 0, "hi", None, 0)
        self.assertEqual(desk.old(), [(0, 1), (0, 2)])
        desk.back(0, 0)
        self.assertEqual(desk.old(), [])
        desk.back(0, 1)
        self.assertEqual(desk.old(), [(0, 1), (0, 2)])


class Tale(unittest.TestCase):
    def test_a_line_for_each_deed(self):
        desk = started()
        desk.put(0, 1, "b", 0, 1)
        desk.back(0, 1)
        desk.phrase("hello")
        desk.put(0, 0, "c", None, 0)
        self.assertEqual(desk.tale(), [("phrase", 0, "hello", 0), ("put", 0, 1, "hallo", 0, None, 1),
                                       ("put", 0, 2, "hej", 1, None, 2), ("put", 0, 1, "b", 0, 1, 3), ("back", 0, 1, 3),
                                       ("phrase", 1, "hello", 4), ("put", 0, 0, "c", None, 0, 5)])

    def test_asking_makes_no_line(self):
        desk = started()
        before = desk.tale()
        desk.now(0, 1), desk.all_put(0, 1), desk.row(0), desk.old(), desk.likes(0, 1), desk.rounds(1), desk.tale()
        self.assertEqual(desk.tale(), before)

    def test_a_tale_may_be_longer_than_one_that_can_be_judged(self):
        desk = Desk([0])
        desk.phrase("a")
        for at in range(300):
            desk.put(0, 0, "b", None, at)
        self.assertEqual(len(desk.tale()), 301)
        self.assertEqual(desk.now(0, 0), (300, "b"))


class Kinds(unittest.TestCase):
    def test_kinds_of_what_is_told(self):
        desk = started()
        self.assertIs(type(desk.phrase("a")), int)
        self.assertIs(type(desk.put(0, 3, "a", 2, None)), int)
        self.assertIs(type(desk.back(0, 3)), int)
        self.assertIs(type(desk.now(0, 1)), tuple)
        for told in (desk.all_put(0, 1), desk.row(0), desk.old(), desk.tale()):
            self.assertIs(type(told), list)
            self.assertLessEqual({type(one) for one in told}, {tuple, type(None)})
        self.assertIs(type(desk.likes(0, 1)), list)
        self.assertIs(type(desk.fill(1)), list)
        self.assertIs(type(desk.rounds(1)), Rounds)

    def test_rounds_of_all_that_is_old(self):
        desk = started()
        desk.put(0, 0, "hi", None, 0)
        desk.phrase("more")
        old = [(0, 1), (0, 2), (0, 3), (1, 1), (1, 2), (1, 3)]
        self.assertEqual(desk.old(), old)
        for hands, many in ((1, 6), (2, 3), (3, 3), (4, 3)):
            answer = desk.rounds(hands)
            self.assertEqual(len(answer.rows), many)
            self.assertTrue(answer.shows(LINE, old, hands))

    def test_putting_all_anew_by_the_rounds_leaves_none_old(self):
        desk = Desk([0, 1, 1, 0, 3])
        for text in ("a", "b", "c"):
            desk.phrase(text)
        desk.put(0, 1, "x", 0, None)
        desk.put(0, 0, "d", None, 0)
        for row in desk.rounds(2).rows:
            seen = {pair: desk.row(pair[0]) for pair in row}
            for phrase, tongue in row:
                above = [0, 1, 1, 0, 3][tongue - 1]
                stands = desk.now(phrase, tongue)
                desk.put(phrase, tongue, "y", seen[phrase, tongue][above][0], stands and stands[0])
        self.assertEqual(desk.old(), [])


if __name__ == "__main__":
    unittest.main()

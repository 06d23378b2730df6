"""All old ones put anew in the fewest rounds, with a depth that shows it."""

import copy
import itertools
import random
import unittest

import reference
from odd import ODD
from phrasedesk.answers import Rounds
from phrasedesk.errors import BadFroms, BadHands, BadOld
from phrasedesk.rounds import evened

GREAT = 10 ** 60
CHAIN = [0, 1, 2, 3, 4, 5, 6]
STAR = [0] * 7
TREE = [0, 0, 1, 1, 2, 4, 6]


def all_pairs(froms, phrases=6):
    return [(phrase, tongue) for phrase in range(phrases) for tongue in range(1, len(froms) + 1)]


class Evened(unittest.TestCase):
    def evens(self, froms, old, hands, many=None):
        """What is told is as 7 tells, in so many rows; what is handed in stays."""
        before = copy.deepcopy((froms, old))
        answer = evened(froms, old, hands)
        self.assertEqual((froms, old), before)
        self.assertIs(type(answer), Rounds)
        self.assertIs(type(answer.rows), list)
        self.assertEqual({type(row) for row in answer.rows} - {list}, set())
        self.assertEqual({type(pair) for row in answer.rows for pair in row} - {tuple}, set())
        self.assertIs(type(answer.depth), int)
        self.assertGreaterEqual(answer.depth, 0)
        self.assertTrue(reference.is_rounds(froms, old, hands, answer.rows, answer.depth), (froms, old, hands))
        self.assertIs(answer.shows(froms, old, hands), True)
        if many is not None:
            self.assertEqual(len(answer.rows), many, (froms, old, hands))
        return len(answer.rows)

    def test_none_old(self):
        for froms in ([0], CHAIN, STAR, TREE):
            for hands in (1, 2, 3, 4):
                self.evens(froms, [], hands, 0)

    def test_one_old(self):
        for hands in (1, 2, 3, 4):
            for pair in all_pairs(TREE):
                self.evens(TREE, [pair], hands, 1)

    def test_all_old(self):
        for hands in (1, 2, 3, 4):
            self.evens([0], all_pairs([0]), hands, -(-6 // hands))
            self.evens(STAR, all_pairs(STAR), hands, -(-42 // hands))
            # Six chains of seven: the hands are never without work.
            self.evens(CHAIN, all_pairs(CHAIN), hands, -(-42 // hands))
            self.evens(TREE, all_pairs(TREE), hands)

    def test_one_chain_leaves_hands_without_work(self):
        for hands in (1, 2, 3, 4):
            self.evens(CHAIN, all_pairs(CHAIN, 1), hands, 7)
        self.assertEqual(evened(CHAIN, all_pairs(CHAIN, 1), 4).depth, 6)

    def test_the_chain_comes_first_where_many_could(self):
        old = [(0, 1), (0, 2), (0, 3), (1, 1), (2, 1), (3, 1)]
        self.evens([0, 1, 2], old, 2, 3)
        self.assertIn((0, 3), evened([0, 1, 2], old, 2).rows[2])

    def test_one_round_more_for_a_wide_end(self):
        # 1, then its five below by two hands: that the six need 3 doesn't show it.
        froms = [0, 1, 1, 1, 1, 1]
        self.evens(froms, all_pairs(froms, 1), 2, 4)
        self.assertEqual(evened(froms, all_pairs(froms, 1), 2).depth, 1)
        self.evens(froms, all_pairs(froms, 1), 4, 3)

    def test_gaps(self):
        self.evens(CHAIN, [(0, 1), (0, 3), (0, 5), (0, 7)], 4, 1)
        self.evens(CHAIN, [(0, 1), (0, 2), (0, 4), (0, 5), (0, 6)], 4, 3)

    def test_every_small_case_needs_no_fewer_by_trying_all(self):
        for tongues in (2, 3, 4):
            for froms in reference.all_froms(tongues):
                pairs = all_pairs(froms, 2)
                for many in range(len(pairs) + 1):
                    for old in itertools.combinations(pairs, many):
                        for hands in (1, 2, 3, 4):
                            self.evens(froms, list(old), hands, reference.fewest_rounds(froms, old, hands))

    def test_some_greater_cases_need_no_fewer_by_trying_all(self):
        chance = random.Random(51)
        for _ in range(120):
            froms = [chance.randint(0, at) for at in range(chance.randint(3, 7))]
            old = sorted(chance.sample(all_pairs(froms, 3), chance.randint(5, 9)))
            hands = chance.randint(1, 4)
            self.evens(froms, old, hands, reference.fewest_rounds(froms, old, hands))

    def test_any_case_has_a_depth_that_shows_it(self):
        chance = random.Random(52)
        for _ in range(1500):
            froms = [chance.randint(0, at) for at in range(chance.randint(1, 7))]
            pairs = all_pairs(froms)
            self.evens(froms, sorted(chance.sample(pairs, chance.randint(0, len(pairs)))), chance.randint(1, 4))

    def test_one_hand_more_or_one_less_old_needs_no_more(self):
        chance = random.Random(53)
        for _ in range(150):
            froms = [chance.randint(0, at) for at in range(chance.randint(1, 7))]
            old = sorted(chance.sample(all_pairs(froms), chance.randint(1, 6 * len(froms))))
            many = [self.evens(froms, old, hands) for hands in (1, 2, 3, 4)]
            self.assertEqual(many, sorted(many, reverse=True))
            self.assertEqual(many[0], len(old))
            at = chance.randrange(len(old))
            for hands in (1, 2, 3, 4):
                self.assertLessEqual(self.evens(froms, old[:at] + old[at + 1:], hands), many[hands - 1])

    def test_told_again_it_is_alike_and_new(self):
        froms, old = list(TREE), all_pairs(TREE)
        first = evened(froms, old, 3)
        rows = copy.deepcopy(first.rows)
        for row in first.rows:
            row.clear()
        first.rows.clear()
        again = evened(froms, old, 3)
        self.assertEqual(again.rows, rows)
        froms.clear()
        old.clear()
        self.assertEqual(again.rows, rows)
        self.assertTrue(again.shows(TREE, all_pairs(TREE), 3))


class Refused(unittest.TestCase):
    def refuses(self, error, froms, old, hands):
        before = [list(one) if isinstance(one, list) else one for one in (froms, old, hands)]
        with self.assertRaises(error) as caught:
            evened(froms, old, hands)
        self.assertIs(type(caught.exception), error)
        self.assertEqual([froms, old, hands], before)

    def test_froms(self):
        for froms in [one for one in ODD if one != [0]] + [[0] * 8, list(range(8)), [1], [0, 2], [-1], [0, -1], [True],
                                                           [0, True], [0, None], [0, "0"], [0, GREAT], (0,), (0, 1)]:
            with self.subTest(repr(froms)):
                self.refuses(BadFroms, froms, [], 1)
        for froms in ([0], CHAIN, STAR):
            self.assertEqual(evened(froms, [], 1).rows, [])

    def test_old_ones_of_other_kinds(self):
        for old in [one for one in ODD if one != []] + [((0, 1),), {(0, 1): 1}, {(0, 1)}, "ab", 5, GREAT]:
            with self.subTest(repr(old)):
                self.refuses(BadOld, [0, 1], old, 1)

    def test_an_old_one_of_another_kind(self):
        wrong = ODD + [0, 1, [0, 1], (0, 1, 2), (0, 1, 1), (1,), ((0, 1), 1), (0, (1,)), (True, 1), (0, True), (False, 1),
                       (0, None), (None, 1), ("0", 1), (0, "1"), (0, [1]), ([0], 1), (0, {}), (b"0", 1), (1, object())]
        for pair in wrong:
            for old in ([pair], [(0, 1), pair], [pair, (5, 2)], [(0, 1), pair, (5, 2)]):
                with self.subTest(repr(old)):
                    self.refuses(BadOld, [0, 1], old, 1)

    def test_phrases_and_tongues_of_old_ones(self):
        for froms in ([0], [0, 1], CHAIN):
            last = len(froms)
            for pair in ((6, 1), (7, 1), (-1, 1), (GREAT, 1), (-GREAT, 1), (0, 0), (5, 0), (0, -1), (0, last + 1), (0, 8),
                         (0, GREAT), (0, -GREAT), (6, 0), (6, last + 1)):
                with self.subTest(froms=froms, pair=pair):
                    self.refuses(BadOld, froms, [pair], 1)
                    self.refuses(BadOld, froms, sorted([pair, (3, 1)]), 1)
            for pair in ((0, 1), (5, 1), (0, last), (5, last)):
                self.assertEqual(evened(froms, [pair], 1).rows, [[pair]])

    def test_not_rising(self):
        for old in ([(0, 1), (0, 1)], [(0, 2), (0, 1)], [(1, 1), (0, 2)], [(0, 1), (1, 1), (0, 2)], [(1, 1), (0, 1)],
                    [(0, 1), (0, 2), (0, 2)], [(0, 1), (0, 1), (0, 2)], [(0, 1), (0, 2), (0, 1)]):
            self.refuses(BadOld, [0, 1], old, 1)
        self.assertEqual(len(evened([0, 1], [(0, 2), (1, 1)], 1).rows), 2)
        self.refuses(BadOld, [0, 1], [(0, 1)] * 5000, 1)

    def test_old_ones_that_hold_themselves(self):
        old = [(0, 1)]
        old.append(old)
        with self.assertRaises(BadOld):
            evened([0], old, 1)

    def test_hands(self):
        for hands in ODD + [0, -1, 5, 6, GREAT, -GREAT]:
            for old in ([], [(0, 1)]):
                with self.subTest(repr(hands)):
                    self.refuses(BadHands, [0], old, hands)
        for hands in (1, 2, 3, 4):
            self.assertEqual(evened([0], [(0, 1)], hands).rows, [[(0, 1)]])

    def test_of_two_faults_the_one_that_is_told_first(self):
        for froms, old, hands in itertools.product([[], True, [1, 0], None], [None, [(6, 1)], [(0, 1), (0, 1)], ()],
                                                   [None, 0, 5, True]):
            self.refuses(BadFroms, froms, old, hands)
            self.refuses(BadFroms, froms, [(0, 1)], hands)
            self.refuses(BadFroms, froms, old, 2)
            self.refuses(BadOld, [0, 1], old, hands)
            self.refuses(BadHands, [0, 1], [(0, 1)], hands)


if __name__ == "__main__":
    unittest.main()

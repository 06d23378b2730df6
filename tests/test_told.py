"""Of froms, a row and a tongue what is told, and what is refused."""

import copy
import itertools
import random
import unittest

import reference
from odd import ODD
from phrasedesk.answers import Fresh, Old
from phrasedesk.errors import BadFroms, BadRow, BadTongue
from phrasedesk.told import told

GREAT = 10 ** 70
CHAIN = [0, 1, 2, 3, 4, 5, 6]
STAR = [0] * 7
TREE = [0, 0, 1, 1, 2, 4, 6]


def fresh_row(froms, first=0, step=1):
    """A row that is fresh in every tongue."""
    numbers = [first + at * step for at in range(len(froms) + 1)]
    return [(numbers[0], None)] + [(numbers[at + 1], numbers[source]) for at, source in enumerate(froms)]


class Told(unittest.TestCase):
    def says(self, froms, row, tongue, chain):
        """It tells this chain, or with None that it is fresh, and nothing that is handed in is changed."""
        before = copy.deepcopy((froms, row))
        answer = told(froms, row, tongue)
        self.assertIs(type(answer), Fresh if chain is None else Old)
        if chain is not None:
            self.assertEqual(answer.chain, chain)
            self.assertIs(type(answer.chain), list)
            self.assertFalse(Fresh().shows(froms, row, tongue))
        self.assertIs(answer.shows(froms, row, tongue), True)
        self.assertEqual((froms, row), before)

    def test_only_the_source_stands(self):
        for froms in (CHAIN, STAR, TREE):
            row = [(0, None)] + [None] * 7
            self.says(froms, row, 0, None)
            for tongue in range(1, 8):
                self.says(froms, row, tongue, [tongue])

    def test_all_fresh(self):
        for froms in (CHAIN, STAR, TREE, [0], [0, 0], [0, 1]):
            for tongue in range(len(froms) + 1):
                self.says(froms, fresh_row(froms), tongue, None)
                self.says(froms, fresh_row(froms, GREAT, GREAT), tongue, None)

    def test_a_new_source_makes_a_whole_chain_old(self):
        row = [(9, None)] + fresh_row(CHAIN)[1:]
        self.says(CHAIN, row, 0, None)
        for tongue in range(1, 8):
            self.says(CHAIN, row, tongue, list(range(tongue, 0, -1)))

    def test_a_new_source_makes_each_of_a_star_old_by_itself(self):
        row = [(9, None)] + fresh_row(STAR)[1:]
        for tongue in range(1, 8):
            self.says(STAR, row, tongue, [tongue])

    def test_only_what_is_below_the_change_is_old(self):
        row = fresh_row(TREE)
        row[1] = (50, 0)
        for tongue, chain in enumerate([None, None, None, [3], [4], None, [6, 4], [7, 6, 4]]):
            self.says(TREE, row, tongue, chain)
        wide = [0, 0, 1, 1, 2, 2, 0]
        row = fresh_row(wide)
        row[1] = (50, 0)
        for tongue, chain in enumerate([None, None, None, [3], [4], None, None, None]):
            self.says(wide, row, tongue, chain)

    def test_none_stands_in_between(self):
        row = fresh_row(CHAIN)
        row[3] = None
        self.says(CHAIN, row, 2, None)
        self.says(CHAIN, row, 3, [3])
        # 4 was put from what was taken back, so it is broken itself.
        self.says(CHAIN, row, 4, [4])
        self.says(CHAIN, row, 6, [6, 5, 4])

    def test_put_from_another_than_what_stands(self):
        for seen in (0, 3, 5, GREAT):
            self.says([0], [(4, None), (1, seen)], 1, [1])
        self.says([0], [(4, None), (1, 4)], 1, None)
        self.says([0], [(0, None), (0, 0)], 1, None)
        self.says([0], [(GREAT, None), (1, GREAT + 1)], 1, [1])

    def test_the_number_itself_is_not_what_counts(self):
        # Only the tongue that it is put from counts: the 5 stands in the source, not in tongue 1.
        self.says([0, 1], [(5, None), (6, 5), (7, 5)], 2, [2])
        self.says([0, 0], [(5, None), (6, 5), (7, 6)], 2, [2])

    def test_the_first_broken_one_ends_the_chain(self):
        row = [(9, None), (1, 0), (2, 1), (3, 8), (4, 3)]
        self.says([0, 1, 2, 3], row, 4, [4, 3])
        self.says([0, 1, 2, 3], row, 2, [2, 1])

    def test_every_small_row(self):
        cells = [None] + list(itertools.product(range(2), range(2)))
        for tongues in (2, 3, 4):
            for froms in reference.all_froms(tongues):
                for others in itertools.product(cells, repeat=tongues - 1):
                    row = [(1, None), *others]
                    for tongue in range(tongues):
                        answer = told(froms, row, tongue)
                        self.assertEqual(getattr(answer, "chain", None), reference.chain(froms, row, tongue))

    def test_many_rows_of_all_sizes(self):
        chance = random.Random(5)
        for case in range(3000):
            froms = [chance.randint(0, at) for at in range(chance.randint(1, 7))]
            row = fresh_row(froms, chance.choice([0, 1, GREAT]), chance.choice([1, 3, GREAT]))
            for change in range(chance.randint(0, 2)):
                at = chance.randint(1, len(froms))
                row[at] = chance.choice([None, (chance.randint(0, 9), chance.randint(0, 9)), (GREAT, row[0][0])])
            for tongue in range(len(froms) + 1):
                self.says(froms, row, tongue, reference.chain(froms, row, tongue))


class New(unittest.TestCase):
    def test_what_is_told_may_be_changed(self):
        froms, row = [0, 1], [(3, None), (1, 0), (2, 1)]
        answer = told(froms, row, 2)
        answer.chain.clear()
        self.assertFalse(answer.shows(froms, row, 2))
        again = told(froms, row, 2)
        self.assertEqual(again.chain, [2, 1])
        self.assertTrue(again.shows(froms, row, 2))

    def test_each_answer_is_a_new_one(self):
        froms, row = [0], [(0, None), (1, 0)]
        self.assertIsNot(told(froms, row, 1), told(froms, row, 1))

    def test_what_was_handed_in_is_not_kept(self):
        froms, row = [0, 1], [(3, None), (1, 0), (2, 1)]
        answer = told(froms, row, 2)
        froms.clear()
        row.clear()
        self.assertEqual(answer.chain, [2, 1])
        self.assertTrue(answer.shows([0, 1], [(3, None), (1, 0), (2, 1)], 2))


class Refused(unittest.TestCase):
    def refuses(self, error, froms, row, tongue):
        """It refuses by just this class, and changes nothing."""
        lists = [list(one) if isinstance(one, list) else one for one in (froms, row, tongue)]
        with self.assertRaises(error) as caught:
            told(froms, row, tongue)
        self.assertIs(type(caught.exception), error)
        self.assertEqual(lists, [froms, row, tongue])

    def test_froms_of_other_kinds(self):
        for froms in ODD:
            if froms != [0] or isinstance(froms, tuple):
                with self.subTest(repr(froms)):
                    self.refuses(BadFroms, froms, [(0, None), None], 0)

    def test_froms_of_1_and_9_tongues(self):
        self.refuses(BadFroms, [], [(0, None)], 0)
        self.refuses(BadFroms, [0] * 8, [(0, None)] + [None] * 8, 0)
        self.refuses(BadFroms, list(range(8)), [(0, None)] + [None] * 8, 0)
        self.refuses(BadFroms, [0] * 5000, [(0, None)] + [None] * 5000, 0)

    def test_the_shortest_and_the_longest_froms_go(self):
        for many in (1, 7):
            row = [(0, None)] + [None] * many
            self.assertIs(type(told([0] * many, row, many)), Old)
            self.assertIs(type(told(list(range(many)), row, 0)), Fresh)

    def test_a_from_that_is_not_earlier(self):
        for at in range(7):
            row = [(0, None)] + [None] * 7
            for source in (-1, at + 1, at + 2, 7, 8, GREAT, -GREAT):
                if not 0 <= source <= at:
                    self.refuses(BadFroms, CHAIN[:at] + [source] + CHAIN[at + 1:], row, 0)
            for source in range(at + 1):
                self.assertIs(type(told(CHAIN[:at] + [source] + CHAIN[at + 1:], row, 0)), Fresh)

    def test_a_from_of_another_kind(self):
        for at in range(3):
            for source in ODD:
                with self.subTest(at=at, source=repr(source)):
                    self.refuses(BadFroms, [0, 1, 2][:at] + [source] + [0, 1, 2][at + 1:], [(0, None)] + [None] * 3, 0)

    def test_froms_that_hold_themselves(self):
        froms = [0]
        froms.append(froms)
        with self.assertRaises(BadFroms):
            told(froms, [(0, None), None, None], 0)

    def test_a_row_of_another_kind_or_length(self):
        for row in ODD + [((0, None), None, None), [(0, None)], [(0, None), None], [(0, None)] + [None] * 3,
                          [(0, None)] + [None] * 4000]:
            with self.subTest(repr(row)[:40]):
                self.refuses(BadRow, [0, 1], row, 0)

    def test_the_source_in_a_row(self):
        wrong = [None, (0, 0), (0, 1), (None, None), (None, 0), (-1, None), (-GREAT, None), (True, None), (False, None),
                 (0, False), (0, True), (0, ""), (0, ()), ("0", None), (), (0,), (None,), (0, None, None), [0, None],
                 (0, [None]), ([0], None), ((0,), None), {0: None}, "ab", 0, 5, True]
        for cell in wrong + [one for one in ODD if one != (0, None)]:
            with self.subTest(repr(cell)):
                self.refuses(BadRow, [0], [cell, None], 1)
                self.refuses(BadRow, [0], [cell, (1, 0)], 0)
        for cell in ((0, None), (1, None), (GREAT, None)):
            self.assertIs(type(told([0], [cell, None], 0)), Fresh)

    def test_another_tongue_in_a_row(self):
        wrong = [(0, None), (None, 0), (None, None), (-1, 0), (0, -1), (-GREAT, 0), (0, -GREAT), (True, 0), (0, True),
                 (False, 0), (0, False), ("a", 0), (0, "a"), (0, []), ([], 0), (0, (0,)), (), (0,), (0, 0, 0), [0, 0],
                 [], "ab", b"ab", {0: 0, 1: 1}, 0, 1, True, False, range(2), (0, object())]
        for cell in wrong + [one for one in ODD if one is not None]:
            for at in (1, 2, 3):
                with self.subTest(cell=repr(cell), at=at):
                    row = [(0, None), (1, 0), None, (2, 3)]
                    row[at] = cell
                    self.refuses(BadRow, [0, 1, 0], row, 0)
        for cell in (None, (0, 0), (1, 0), (0, 1), (GREAT, GREAT)):
            for at in (1, 2, 3):
                row = [(0, None), (1, 0), None, (2, 3)]
                row[at] = cell
                self.assertIs(type(told([0, 1, 0], row, 0)), Fresh)

    def test_a_row_that_holds_itself(self):
        row = [(0, None)]
        row.append(row)
        with self.assertRaises(BadRow):
            told([0], row, 0)

    def test_tongues_below_0_and_beyond_and_of_other_kinds(self):
        for froms in ([0], [0, 1], CHAIN):
            row = fresh_row(froms)
            for tongue in ODD + [-1, -2, -len(row), len(row), len(row) + 1, 8, 9, GREAT, -GREAT]:
                with self.subTest(froms=froms, tongue=repr(tongue)):
                    self.refuses(BadTongue, froms, row, tongue)
            for tongue in range(len(row)):
                self.assertIs(type(told(froms, row, tongue)), Fresh)

    def test_of_two_faults_the_one_that_is_told_first(self):
        good = ([0, 1], [(0, None), None, None], 1)
        for bad_froms, bad_row, bad_tongue in itertools.product([[], True, [1, 0], [0, None]],
                                                                [None, [], [None] * 3, [(0, None), None, (1, None)]],
                                                                [None, True, -1, 3, "1"]):
            self.refuses(BadFroms, bad_froms, bad_row, bad_tongue)
            self.refuses(BadFroms, bad_froms, bad_row, good[2])
            self.refuses(BadFroms, bad_froms, good[1], bad_tongue)
            self.refuses(BadFroms, bad_froms, good[1], good[2])
            self.refuses(BadRow, good[0], bad_row, bad_tongue)
            self.refuses(BadRow, good[0], bad_row, good[2])
            self.refuses(BadTongue, good[0], good[1], bad_tongue)

    def test_after_a_refusal_the_next_answer_is_still_right(self):
        froms, row = [0, 1], [(3, None), (1, 0), (2, 1)]
        for _ in range(2):
            self.refuses(BadTongue, froms, row, 3)
            self.assertEqual(told(froms, row, 2).chain, [2, 1])


if __name__ == "__main__":
    unittest.main()

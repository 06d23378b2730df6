"""Fresh and Old say by themselves whether they are so."""

import copy
import itertools
import unittest

import reference
from phrasedesk.answers import Fresh, Old

GREAT = 10 ** 50
CHAIN = [0, 1, 2]
BROKEN_AT_1 = [(7, None), (1, 0), (2, 1), (3, 2)]


def wrong_chains(chain):
    """Chains that are not this one: cut, longer, turned, other numbers."""
    others = [[], [0], chain[:-1], chain[1:], chain + [0], chain + chain, [0] + chain, chain + [chain[-1]], chain[::-1],
              [-one for one in chain], [one + 1 for one in chain], [one + GREAT for one in chain],
              chain[:-1] + [-GREAT], [-1], [GREAT], [1] * 2000, list(range(8, -1, -1))]
    return [other for other in others if other != chain]


class FreshOldShows(unittest.TestCase):
    def test_the_told_chain_shows_and_no_other(self):
        self.assertIs(Old([3, 2, 1]).shows(CHAIN, BROKEN_AT_1, 3), True)
        self.assertIs(Old([2, 1]).shows(CHAIN, BROKEN_AT_1, 2), True)
        self.assertIs(Old([1]).shows(CHAIN, BROKEN_AT_1, 1), True)
        self.assertIs(Fresh().shows(CHAIN, BROKEN_AT_1, 0), True)
        for other in wrong_chains([3, 2, 1]):
            with self.subTest(other[:9]):
                self.assertIs(Old(other).shows(CHAIN, BROKEN_AT_1, 3), False)

    def test_the_chain_of_another_tongue_does_not_show(self):
        for asked, tongue in itertools.permutations([1, 2, 3], 2):
            chain = reference.chain(CHAIN, BROKEN_AT_1, tongue)
            self.assertIs(Old(chain).shows(CHAIN, BROKEN_AT_1, asked), False)

    def test_nothing_old_shows_where_it_is_fresh(self):
        row = [(0, None), (1, 0), (2, 1), (3, 2)]
        for tongue in range(4):
            self.assertIs(Fresh().shows(CHAIN, row, tongue), True)
            for chain in [[], [tongue], reference.path_to_source(CHAIN, tongue)] + wrong_chains([9]):
                self.assertIs(Old(chain).shows(CHAIN, row, tongue), False)

    def test_chains_go_on_only_to_the_first_broken_one(self):
        row = [(7, None), (1, 0), (2, 9), (3, 2)]
        self.assertIs(Old([3, 2]).shows(CHAIN, row, 3), True)
        self.assertIs(Old([3, 2, 1]).shows(CHAIN, row, 3), False)

    def test_just_one_of_all_shows_for_every_small_row(self):
        cells = [None] + list(itertools.product(range(2), range(2)))
        chains = [list(one) for many in range(4) for one in itertools.product(range(3), repeat=many)]
        for froms in reference.all_froms(3):
            for first, second in itertools.product(cells, cells):
                row = [(0, None), first, second]
                for tongue in range(3):
                    right = reference.chain(froms, row, tongue)
                    self.assertIs(Fresh().shows(froms, row, tongue), right is None)
                    shown = [chain for chain in chains if Old(chain).shows(froms, row, tongue)]
                    self.assertEqual(shown, [] if right is None else [right])

    def test_by_the_field_as_it_stands_then(self):
        answer = Old([3, 2])
        self.assertIs(answer.shows(CHAIN, BROKEN_AT_1, 3), False)
        answer.chain.append(1)
        self.assertIs(answer.shows(CHAIN, BROKEN_AT_1, 3), True)
        answer.chain[0] = 2
        self.assertIs(answer.shows(CHAIN, BROKEN_AT_1, 3), False)
        answer.chain = [2, 1]
        self.assertIs(answer.shows(CHAIN, BROKEN_AT_1, 2), True)

    def test_true_is_no_number_in_a_chain(self):
        self.assertIs(Old([True]).shows([0], [(0, None), None], 1), False)
        self.assertIs(Old([1]).shows([0], [(0, None), None], 1), True)

    def test_fields_of_other_kinds_are_just_not_so(self):
        for field in (None, 1, (1,), "1", [[1]], [None], [(1, 1)], {}):
            answer = Old([1])
            answer.chain = field
            for row in ([(0, None), None], [(0, None), (1, 0)]):
                self.assertIs(answer.shows([0], row, 1), False)

    def test_nothing_is_changed_by_asking(self):
        froms, row, answer = list(CHAIN), copy.deepcopy(BROKEN_AT_1), Old([3, 2, 1])
        answer.shows(froms, row, 3)
        Fresh().shows(froms, row, 3)
        self.assertEqual((froms, row, answer.chain), (CHAIN, BROKEN_AT_1, [3, 2, 1]))


if __name__ == "__main__":
    unittest.main()

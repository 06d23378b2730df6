"""Rounds say by themselves whether they put all old ones anew in the fewest rounds, with a depth that shows it."""

import copy
import itertools
import random
import unittest

import reference
from phrasedesk.answers import Rounds

GREAT = 10 ** 50
LINE = [0, 1, 2]
OLD = [(0, 1), (0, 2), (0, 3), (1, 1), (2, 1)]
ROWS = [[(0, 1), (1, 1)], [(0, 2), (2, 1)], [(0, 3)]]


def some_case(chance, most):
    """Froms, old ones and hands, by chance."""
    froms = [chance.randint(0, at) for at in range(chance.randint(1, 7))]
    pairs = [(phrase, tongue) for phrase in range(6) for tongue in range(1, len(froms) + 1)]
    if chance.random() < 0.5:
        pairs = pairs[:2 * len(froms)]
    old = sorted(chance.sample(pairs, chance.randint(0, min(most, len(pairs)))))
    return froms, old, chance.randint(1, 4)


def changed_rows(rows, chance):
    """Rows that come from these by one change each."""
    flat = [pair for row in rows for pair in row]
    found = [rows[::-1], rows + [[]], [[]] + rows, rows[1:], rows[:-1], rows + [[(0, 1)]], rows + rows, [flat], []]
    if rows:
        at = chance.randrange(len(rows))
        found.append(rows[:at] + [rows[at][1:]] + rows[at + 1:])
        found.append(rows[:at] + [rows[at] + rows[at][:1]] + rows[at + 1:])
        found.append(rows[:at] + [rows[at] + [(chance.randint(-1, 6), chance.randint(-1, 8))]] + rows[at + 1:])
        found.append(rows[:at] + [rows[at][::-1]] + rows[at + 1:])
        found.append(rows[:at] + [rows[at][:1], rows[at][1:]] + rows[at + 1:])
    if len(rows) > 1:
        at = chance.randrange(len(rows) - 1)
        found.append(rows[:at] + [rows[at] + rows[at + 1]] + rows[at + 2:])
        found.append(rows[:at] + [rows[at + 1], rows[at]] + rows[at + 2:])
        shuffled = flat[:]
        chance.shuffle(shuffled)
        parts, left = [], shuffled
        for row in rows:
            parts.append(left[:len(row)])
            left = left[len(row):]
        found.append(parts)
    return found


class RoundsShow(unittest.TestCase):
    def test_the_fewest_rounds_with_a_depth_that_shows_it(self):
        # Five by two hands: 0 + 3; from depth 1 on 1 + 1; from depth 2 on 2 + 1.
        for depth, shown in enumerate([True, False, True, False, False]):
            self.assertIs(Rounds(ROWS, depth).shows(LINE, OLD, 2), shown)

    def test_depths_below_0_or_beyond(self):
        for depth in (-1, -2, -GREAT, 3, 4, 7, GREAT):
            self.assertIs(Rounds(ROWS, depth).shows(LINE, OLD, 2), False)

    def test_a_depth_below_0_never_shows_though_the_sum_would_fit(self):
        # -1 and 3 of that depth or more by one hand would make 2.
        self.assertIs(Rounds([[(0, 1)], [(1, 1)], [(2, 1)]], 0).shows([0], [(0, 1), (1, 1), (2, 1)], 1), True)
        for depth in (-1, -2, -3):
            for rows in ([[(0, 1)], [(1, 1)], [(2, 1)]], [[(0, 1)], [(1, 1)]], [[(0, 1), (1, 1), (2, 1)]], []):
                self.assertIs(Rounds(rows, depth).shows([0], [(0, 1), (1, 1), (2, 1)], 1), False)
        self.assertIs(Rounds([], -1).shows([0], [], 1), False)

    def test_no_old_ones(self):
        for froms in ([0], LINE, [0] * 7):
            for hands in (1, 2, 3, 4):
                for depth in (0, 1, 7, GREAT):
                    self.assertIs(Rounds([], depth).shows(froms, [], hands), True)
                    self.assertIs(Rounds([[]], depth).shows(froms, [], hands), False)
                    self.assertIs(Rounds([[(0, 1)]], depth).shows(froms, [], hands), False)

    def test_a_depth_that_none_has_needs_no_rounds(self):
        self.assertIs(Rounds([[(0, 1)]], 0).shows([0], [(0, 1)], 1), True)
        self.assertIs(Rounds([[(0, 1)]], 1).shows([0], [(0, 1)], 1), False)
        self.assertIs(Rounds([], 1).shows([0], [(0, 1)], 1), False)
        rows = [[(0, 1)], [(1, 1)]]
        self.assertIs(Rounds(rows, 2).shows([0], [(0, 1), (1, 1)], 1), False)

    def test_order_within_a_row_is_free_and_which_ones_too(self):
        free = [[[(1, 1), (0, 1)], [(2, 1), (0, 2)], [(0, 3)]], [[(0, 1)], [(0, 2), (2, 1)], [(1, 1), (0, 3)]],
                [[(2, 1), (0, 1)], [(0, 2)], [(0, 3), (1, 1)]]]
        for rows in free:
            self.assertIs(Rounds(rows, 0).shows(LINE, OLD, 2), True)
            self.assertIs(Rounds(rows, 2).shows(LINE, OLD, 2), True)

    def test_turned_cut_joined_and_longer_rows(self):
        one, two, three = ROWS
        wrong = [[three, two, one], [two, one, three], [one, three, two], [one, two], [two, three], [one + two, three],
                 [one, two + three], [one, two, three, []], [[], one, two, three], [one, [], two, three],
                 [one, two, three, [(0, 3)]], [one, two, three + [(0, 3)]], [one, two, three + [(3, 1)]],
                 [one, two, [(1, 3)]], [one, two, [(0, -1)]], [one, two, [(0, 0)]], [one, two, [(GREAT, -GREAT)]],
                 [[(0, 1)], [(1, 1)], two, three], [one[:1], two, three], [[(0, 1), (0, 2)], [(1, 1), (2, 1)], three],
                 [], [[]], [one] * 500, [[(at, at) for at in range(3000)]]]
        for rows in wrong:
            for depth in (-1, 0, 1, 2, 3, 4):
                with self.subTest(rows=repr(rows)[:70], depth=depth):
                    self.assertIs(Rounds(rows, depth).shows(LINE, OLD, 2), False)

    def test_one_round_more_than_needed_is_never_shown(self):
        rows = [[(0, 1)], [(0, 2), (1, 1)], [(0, 3)], [(2, 1)]]
        for depth in range(-2, 9):
            self.assertIs(Rounds(rows, depth).shows(LINE, OLD, 2), False)

    def test_no_more_than_one_by_each_hand(self):
        old = [(phrase, 1) for phrase in range(4)]
        for hands in (1, 2, 3, 4):
            self.assertIs(Rounds([old], 0).shows([0], old, hands), hands == 4)
        self.assertIs(Rounds([old[:3], old[3:]], 0).shows([0], old, 3), True)
        self.assertIs(Rounds([old[:3], old[3:]], 0).shows([0], old, 2), False)
        self.assertIs(Rounds([old[:2], old[2:]], 0).shows([0], old, 2), True)

    def test_the_later_round_is_by_the_tongue_it_is_put_from(self):
        old = [(0, 1), (0, 2)]
        self.assertIs(Rounds([old], 0).shows([0, 0], old, 2), True)
        self.assertIs(Rounds([old], 0).shows([0, 1], old, 2), False)
        self.assertIs(Rounds([[(0, 1)], [(0, 2)]], 1).shows([0, 1], old, 2), True)
        self.assertIs(Rounds([[(0, 1)], [(0, 2)]], 0).shows([0, 1], old, 2), False)
        self.assertIs(Rounds([[(0, 2)], [(0, 1)]], 1).shows([0, 1], old, 2), False)
        other = [(0, 1), (1, 2)]
        self.assertIs(Rounds([other], 0).shows([0, 1], other, 2), True)

    def test_a_gap_ends_the_depth(self):
        old = [(0, 1), (0, 3)]
        self.assertIs(Rounds([old], 0).shows(LINE, old, 2), True)
        self.assertIs(Rounds([old[::-1]], 0).shows(LINE, old, 2), True)
        # Both have depth 0, as 2 isn't old: no depth but 0 shows anything.
        for depth in (1, 2, 3):
            for rows in ([old], [[(0, 1)], [(0, 3)]]):
                self.assertIs(Rounds(rows, depth).shows(LINE, old, 2), False)

    def test_the_deepest_chain(self):
        froms, old = list(range(7)), [(5, tongue) for tongue in range(1, 8)]
        rows = [[pair] for pair in old]
        for hands in (1, 2, 3, 4):
            for depth in range(-1, 10):
                right = depth == 6 or hands == 1 and 0 <= depth <= 6
                self.assertIs(Rounds(rows, depth).shows(froms, old, hands), right)

    def test_by_the_fields_as_they_stand_then(self):
        answer = Rounds(ROWS, 1)
        self.assertIs(answer.shows(LINE, OLD, 2), False)
        answer.depth = 2
        self.assertIs(answer.shows(LINE, OLD, 2), True)
        answer.rows[2].append((0, 3))
        self.assertIs(answer.shows(LINE, OLD, 2), False)
        answer.rows[2].pop()
        self.assertIs(answer.shows(LINE, OLD, 2), True)
        answer.rows.append([])
        self.assertIs(answer.shows(LINE, OLD, 2), False)
        answer.rows = []
        self.assertIs(answer.shows(LINE, OLD, 2), False)
        self.assertIs(answer.shows(LINE, [], 2), True)

    def test_true_is_no_number_in_a_field(self):
        self.assertIs(Rounds([[(0, True)]], 0).shows([0], [(0, 1)], 1), False)
        self.assertIs(Rounds([[(False, 1)]], 0).shows([0], [(0, 1)], 1), False)
        self.assertIs(Rounds([[(0, 1)]], False).shows([0], [(0, 1)], 1), False)
        self.assertIs(Rounds([], True).shows([0], [], 1), False)

    def test_fields_of_other_kinds_are_just_not_so(self):
        wrong = [None, 1, "a", [None], [1], [(0, 1)], [[[0, 1]]], [[0, 1]], [[(0,)]], [[(0, 1, 2)]], [[(0, None)]],
                 [[([], 1)]], ([(0, 1)],), [((0, 1),)], {0: [(0, 1)]}]
        for rows in wrong:
            with self.subTest(repr(rows)):
                self.assertIs(Rounds(rows, 0).shows([0], [(0, 1)], 4), False)
        for depth in (None, "0", [0], (0,)):
            self.assertIs(Rounds([[(0, 1)]], depth).shows([0], [(0, 1)], 4), False)

    def test_nothing_is_changed_by_asking(self):
        froms, old, answer = list(LINE), list(OLD), Rounds(ROWS, 2)
        answer.shows(froms, old, 2)
        self.assertEqual((froms, old, answer.rows, answer.depth), (LINE, OLD, ROWS, 2))


class RoundsAgainstAllChoices(unittest.TestCase):
    def test_shown_means_fewest_and_the_fewest_can_be_shown(self):
        chance = random.Random(11)
        for case in range(250):
            froms, old, hands = some_case(chance, 7)
            rows = reference.good_rows(froms, old, hands)
            self.assertEqual(len(rows), reference.fewest_rounds(froms, old, hands))
            self.assertTrue(any(Rounds(rows, depth).shows(froms, old, hands) for depth in range(8)))
            if old:
                one_more = [rows[0][:1], rows[0][1:]] + rows[1:]
                for depth in range(-1, 9):
                    self.assertFalse(Rounds(one_more, depth).shows(froms, old, hands))

    def test_like_the_reference_for_changed_rows(self):
        chance = random.Random(12)
        for case in range(400):
            froms, old, hands = some_case(chance, 42)
            rows = reference.good_rows(froms, old, hands)
            for changed in [rows] + changed_rows(rows, chance):
                before = copy.deepcopy(changed)
                for depth in range(-1, 9):
                    right = reference.is_rounds(froms, old, hands, changed, depth)
                    self.assertIs(Rounds(changed, depth).shows(froms, old, hands), right)
                self.assertEqual(changed, before)

    def test_every_placing_of_a_small_case(self):
        froms, old = [0, 1], [(0, 1), (0, 2), (1, 1)]
        for hands in (1, 2, 3):
            for places in itertools.product(range(3), repeat=3):
                rows = [[pair for pair, at in zip(old, places) if at == place] for place in range(max(places) + 1)]
                for depth in range(-1, 4):
                    right = reference.is_rounds(froms, old, hands, rows, depth)
                    self.assertIs(Rounds(rows, depth).shows(froms, old, hands), right)


if __name__ == "__main__":
    unittest.main()

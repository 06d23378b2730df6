"""The answers' classes, their fields, and that these are copies."""

import unittest

from phrasedesk.answers import Answer, Fresh, Old, Right, Rounds, Wrong


class Classes(unittest.TestCase):
    def test_each_is_straight_under_answer(self):
        for one in (Fresh, Old, Rounds, Right, Wrong):
            with self.subTest(one.__name__):
                self.assertEqual(one.__bases__, (Answer,))

    def test_shows_stands_in_each_class_itself(self):
        for one in (Fresh, Old, Rounds, Right, Wrong):
            with self.subTest(one.__name__):
                self.assertIn("shows", vars(one))

    def test_answer_is_no_error(self):
        self.assertFalse(issubclass(Answer, Exception))


class Fields(unittest.TestCase):
    def test_fields_are_set_as_listed(self):
        self.assertEqual(vars(Fresh()), {})
        self.assertEqual(vars(Right()), {})
        self.assertEqual(vars(Old([3, 1])), {"chain": [3, 1]})
        self.assertEqual(vars(Rounds([[(0, 1)], [(0, 2)]], 1)), {"rows": [[(0, 1)], [(0, 2)]], "depth": 1})
        self.assertEqual(vars(Wrong(4)), {"line": 4})

    def test_fields_of_any_sign_size_and_many_are_set_too(self):
        great = 10 ** 60
        self.assertEqual(Old([]).chain, [])
        self.assertEqual(Old([-great, great, 0, 0]).chain, [-great, great, 0, 0])
        self.assertEqual(Old(list(range(5000))).chain, list(range(5000)))
        self.assertEqual(Rounds([], -great).rows, [])
        self.assertEqual(Rounds([], -great).depth, -great)
        self.assertEqual(Rounds([[], [(great, -1)]], 0).rows, [[], [(great, -1)]])
        self.assertEqual(Wrong(-great).line, -great)

    def test_a_chain_is_copied(self):
        chain = [2, 1]
        answer = Old(chain)
        self.assertIs(type(answer.chain), list)
        chain.append(0)
        self.assertEqual(answer.chain, [2, 1])
        answer.chain.clear()
        self.assertEqual(chain, [2, 1, 0])

    def test_rows_are_copied_and_each_row_too(self):
        rows = [[(0, 1)], [(0, 2)]]
        answer = Rounds(rows, 0)
        rows[0].append((5, 5))
        rows.append([(1, 1)])
        self.assertEqual(answer.rows, [[(0, 1)], [(0, 2)]])
        answer.rows[1].clear()
        answer.rows.pop(0)
        self.assertEqual(rows, [[(0, 1), (5, 5)], [(0, 2)], [(1, 1)]])

    def test_two_answers_of_the_same_lists_share_none(self):
        rows = [[(0, 1)]]
        one, other = Rounds(rows, 0), Rounds(rows, 0)
        one.rows[0].append((0, 2))
        self.assertEqual(other.rows, [[(0, 1)]])

    def test_the_same_row_twice_becomes_two(self):
        row = [(0, 1)]
        answer = Rounds([row, row], 0)
        answer.rows[0].clear()
        self.assertEqual(answer.rows, [[], [(0, 1)]])


if __name__ == "__main__":
    unittest.main()

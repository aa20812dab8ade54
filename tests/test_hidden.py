"""Point 8, with what points 1 and 11 say of it."""

import copy
import unittest

from numberpile.errors import NoPile, NoShares, NoSign
from numberpile.hidden import lay_hidden, take_hidden
from numberpile.piles import lay, take
from tests.cases import HUGE, LARGE_PILES, LOW_PILES, WRONG_COUNTS

PRIOR = [1, 1]
GIVEN = [[1, 3], [2, 2]]
BACK = [[1, 2], [3, 1]]
PILES = list(range(0, 60)) + LARGE_PILES


def tables(many_hidden, many_signs, seed):
    """A prior, given and back for so many hidden signs and signs."""
    prior = [(seed + hidden * 37) % 11 + 1 for hidden in range(many_hidden)]
    given = [[(seed + hidden * 5 + sign * 7) % 13 + 1 for sign in range(many_signs)] for hidden in range(many_hidden)]
    back = [[(seed + hidden * 3 + sign * 11) % 17 + 1 for hidden in range(many_hidden)] for sign in range(many_signs)]
    return (prior, given, back)


GOOD_TABLES = [
    (PRIOR, GIVEN, BACK),
    ([1], [[1]], [[1]]),
    ([999], [[999]], [[999]]),
    ([5], [[2, 3, 5]], [[7], [1], [4]]),
    ([2, 3, 5], [[5], [1], [9]], [[4, 1, 7]]),
    tables(2, 3, 1),
    tables(3, 2, 4),
    tables(4, 4, 9),
    tables(100, 2, 5),
    tables(2, 100, 3),
]

# Lengths that do not go together, each otherwise as told.
WRONG_LENGTHS = [
    ([1], GIVEN, BACK),
    ([1, 1, 1], GIVEN, BACK),
    (PRIOR, [[1, 3]], BACK),
    (PRIOR, [[1, 3], [2, 2], [1, 1]], BACK),
    (PRIOR, [[1, 3], [2]], BACK),
    (PRIOR, [[1], [2, 2]], BACK),
    (PRIOR, [[1, 3], [2, 2, 1]], BACK),
    (PRIOR, [[1, 3, 1], [2, 2, 1]], BACK),
    (PRIOR, [[1], [2]], BACK),
    (PRIOR, GIVEN, [[1, 2]]),
    (PRIOR, GIVEN, [[1, 2], [3, 1], [1, 1]]),
    (PRIOR, GIVEN, [[1, 2], [3]]),
    (PRIOR, GIVEN, [[1], [3, 1]]),
    (PRIOR, GIVEN, [[1, 2, 1], [3, 1, 1]]),
    (PRIOR, GIVEN, [[1, 2], [3, 1, 1]]),
    ([], GIVEN, BACK),
    (PRIOR, [], BACK),
    (PRIOR, GIVEN, []),
    (PRIOR, [], []),
    ([], [], []),
    ([], [], BACK),
    (PRIOR, [[], []], BACK),
    (PRIOR, [[], []], []),
    (PRIOR, [[1, 3], []], BACK),
    (PRIOR, [[], [2, 2]], BACK),
    (PRIOR, GIVEN, [[], []]),
    (PRIOR, GIVEN, [[1, 2], []]),
]


def with_noughts():
    """Tables that are as told but for one count of 0."""
    made = []
    for place in range(2):
        for row in range(2):
            prior, given, back = copy.deepcopy((PRIOR, GIVEN, BACK))
            given[row][place] = 0
            made.append((prior, given, back))
            prior, given, back = copy.deepcopy((PRIOR, GIVEN, BACK))
            back[row][place] = 0
            made.append((prior, given, back))
        prior, given, back = copy.deepcopy((PRIOR, GIVEN, BACK))
        prior[place] = 0
        made.append((prior, given, back))
    return made


def with_wrong_counts():
    """Tables in which one of the counts is not as told, of the right length where that can be."""
    made = []
    for wrong in [[1, 1000], [1000, 1], [-1, 3], [3, -1], [0, 0], [HUGE, 1], [1, -HUGE]] + WRONG_COUNTS:
        made.append((wrong, GIVEN, BACK))
        made.append((PRIOR, [wrong, GIVEN[1]], BACK))
        made.append((PRIOR, [GIVEN[0], wrong], BACK))
        made.append((PRIOR, GIVEN, [wrong, BACK[1]]))
        made.append((PRIOR, GIVEN, [BACK[0], wrong]))
    # Of lengths that go together, but more than counts may have.
    made.append(tables(101, 2, 1))
    made.append(tables(2, 101, 1))
    return made


WRONG_TABLES = WRONG_LENGTHS + with_noughts() + with_wrong_counts()


class TestLayHidden(unittest.TestCase):
    def test_written_out(self):
        self.assertEqual(lay_hidden(5, PRIOR, GIVEN, BACK, 1), 12)
        self.assertEqual(lay_hidden(5, PRIOR, GIVEN, BACK, 0), 11)
        self.assertEqual(lay_hidden(0, PRIOR, GIVEN, BACK, 0), 0)
        self.assertEqual(lay_hidden(0, PRIOR, GIVEN, BACK, 1), 2)

    def test_taken_by_back_laid_by_given_laid_by_prior(self):
        for prior, given, back in GOOD_TABLES:
            for sign in range(len(back)):
                for pile in [0, 1, 2, 3, 77] + LARGE_PILES:
                    hidden, left = take(pile, back[sign])
                    asked = lay(lay(left, given[hidden], sign), prior, hidden)
                    with self.subTest(prior=prior[:4], sign=sign, pile=pile):
                        self.assertEqual(lay_hidden(pile, prior, given, back, sign), asked)

    def test_one_hidden_sign_is_laying_by_its_given(self):
        for pile in PILES:
            for sign in range(3):
                told = lay_hidden(pile, [5], [[2, 3, 5]], [[7], [1], [4]], sign)
                self.assertEqual(told, lay(pile, [2, 3, 5], sign))

    def test_gives_a_whole_number(self):
        self.assertIs(type(lay_hidden(5, PRIOR, GIVEN, BACK, 1)), int)

    def test_a_sign_that_is_not_there(self):
        for prior, given, back in GOOD_TABLES:
            many = len(back)
            for sign in [-HUGE, -many, -1, many, many + 1, HUGE]:
                for pile in [0, 5, 10 ** 30]:
                    with self.subTest(prior=prior[:4], sign=sign):
                        self.assertRaises(NoSign, lay_hidden, pile, prior, given, back, sign)

    def test_a_hidden_sign_is_no_sign(self):
        prior, given, back = tables(5, 2, 1)
        self.assertRaises(NoSign, lay_hidden, 5, prior, given, back, 2)
        self.assertRaises(NoSign, lay_hidden, 5, prior, given, back, 4)

    def test_low_piles_go_ahead_of_a_wrong_sign(self):
        for pile in LOW_PILES:
            for sign in [0, 1, 2, -1, HUGE]:
                with self.subTest(pile=pile, sign=sign):
                    self.assertRaises(NoPile, lay_hidden, pile, PRIOR, GIVEN, BACK, sign)

    def test_wrong_tables_go_ahead_of_all(self):
        for prior, given, back in WRONG_TABLES:
            for pile in [0, 5, -1]:
                for sign in [0, 1, -1, 200]:
                    with self.subTest(prior=prior[:4], given=given[:4], back=back[:4], pile=pile, sign=sign):
                        self.assertRaises(NoShares, lay_hidden, pile, prior, given, back, sign)


class TestTakeHidden(unittest.TestCase):
    def test_written_out(self):
        self.assertEqual(take_hidden(12, PRIOR, GIVEN, BACK), (1, 5))
        self.assertEqual(take_hidden(11, PRIOR, GIVEN, BACK), (0, 5))
        self.assertEqual(take_hidden(0, PRIOR, GIVEN, BACK), (0, 0))

    def test_taken_by_prior_taken_by_given_laid_by_back(self):
        for prior, given, back in GOOD_TABLES:
            for pile in PILES:
                hidden, left = take(pile, prior)
                sign, left = take(left, given[hidden])
                with self.subTest(prior=prior[:4], pile=pile):
                    self.assertEqual(take_hidden(pile, prior, given, back), (sign, lay(left, back[sign], hidden)))

    def test_gives_a_tuple(self):
        self.assertIs(type(take_hidden(12, PRIOR, GIVEN, BACK)), tuple)

    def test_low_piles(self):
        for pile in LOW_PILES:
            self.assertRaises(NoPile, take_hidden, pile, PRIOR, GIVEN, BACK)

    def test_wrong_tables_go_ahead_of_a_low_pile(self):
        for prior, given, back in WRONG_TABLES:
            for pile in [0, 5, -1]:
                with self.subTest(prior=prior[:4], given=given[:4], back=back[:4], pile=pile):
                    self.assertRaises(NoShares, take_hidden, pile, prior, given, back)


class TestEachUndoesTheOther(unittest.TestCase):
    def test_laid_and_taken(self):
        for prior, given, back in GOOD_TABLES:
            for sign in range(len(back)):
                for pile in [0, 1, 2, 3, 77] + LARGE_PILES:
                    with self.subTest(prior=prior[:4], sign=sign, pile=pile):
                        laid = lay_hidden(pile, prior, given, back, sign)
                        self.assertEqual(take_hidden(laid, prior, given, back), (sign, pile))

    def test_taken_and_laid(self):
        for prior, given, back in GOOD_TABLES:
            for pile in PILES:
                with self.subTest(prior=prior[:4], pile=pile):
                    sign, left = take_hidden(pile, prior, given, back)
                    self.assertGreaterEqual(left, 0)
                    self.assertEqual(lay_hidden(left, prior, given, back, sign), pile)

    def test_somewhat_beyond_900_figures_is_not_refused(self):
        pile = 10 ** 950 + 3
        self.assertEqual(take_hidden(lay_hidden(pile, PRIOR, GIVEN, BACK, 1), PRIOR, GIVEN, BACK), (1, pile))


class TestHandedIn(unittest.TestCase):
    def test_the_tables_stay_as_they_were(self):
        for prior, given, back in GOOD_TABLES:
            ahead = copy.deepcopy((prior, given, back))
            lay_hidden(12345, prior, given, back, len(back) - 1)
            take_hidden(12345, prior, given, back)
            self.assertEqual((prior, given, back), ahead)

    def test_refused_tables_stay_as_they_were(self):
        for prior, given, back in WRONG_TABLES:
            ahead = copy.deepcopy((prior, given, back))
            self.assertRaises(NoShares, lay_hidden, 5, prior, given, back, 0)
            self.assertRaises(NoShares, take_hidden, 5, prior, given, back)
            self.assertEqual((prior, given, back), ahead)

    def test_tables_stay_where_pile_or_sign_is_refused(self):
        prior, given, back = copy.deepcopy((PRIOR, GIVEN, BACK))
        self.assertRaises(NoSign, lay_hidden, 5, prior, given, back, 2)
        self.assertRaises(NoPile, lay_hidden, -5, prior, given, back, 0)
        self.assertRaises(NoPile, take_hidden, -5, prior, given, back)
        self.assertEqual((prior, given, back), (PRIOR, GIVEN, BACK))

    def test_tables_changed_between_two_calls(self):
        prior, given, back = copy.deepcopy((PRIOR, GIVEN, BACK))
        self.assertEqual(lay_hidden(5, prior, given, back, 1), 12)
        given[0][1] = 1
        self.assertEqual(lay_hidden(5, prior, given, back, 1), 18)
        back[1][0] = 0
        self.assertRaises(NoShares, lay_hidden, 5, prior, given, back, 0)


if __name__ == "__main__":
    unittest.main()

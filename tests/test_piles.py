"""Points 3 and 4, with what points 1 and 11 say of them."""

import unittest

from numberpile.errors import NoPile, NoShares, NoSign
from numberpile.piles import lay, lay_row, take, take_row
from tests.cases import GOOD_COUNTS, HUGE, LARGE_PILES, LOW_PILES, WRONG_COUNTS
from tests.cases import not_there, row_of, slot_signs, there


class TestLay(unittest.TestCase):
    def test_written_out(self):
        self.assertEqual(lay(0, [2, 3, 5], 0), 0)
        self.assertEqual(lay(0, [2, 3, 5], 1), 2)
        self.assertEqual(lay(0, [2, 3, 5], 2), 5)
        self.assertEqual(lay(7, [2, 3, 5], 0), 31)
        self.assertEqual(lay(7, [2, 3, 5], 1), 23)
        self.assertEqual(lay(7, [2, 3, 5], 2), 17)
        self.assertEqual(lay(8, [0, 3, 0, 1], 1), 10)
        self.assertEqual(lay(8, [0, 3, 0, 1], 3), 35)

    def test_one_sign_alone_leaves_the_pile(self):
        for pile in [0, 1, 6, 7, 8] + LARGE_PILES:
            self.assertEqual(lay(pile, [7], 0), pile)
            self.assertEqual(lay(pile, [0, 7, 0], 1), pile)

    def test_many_figures(self):
        self.assertEqual(lay(10 ** 899, [1, 9], 0), 10 ** 900)
        self.assertEqual(lay(10 ** 899, [1, 9], 1), 10 ** 899 // 9 * 10 + 2)
        self.assertEqual(lay(10 ** 40 + 1, [1, 2, 1], 1), 2 * 10 ** 40 + 2)

    def test_somewhat_beyond_900_figures_is_not_refused(self):
        self.assertEqual(lay(10 ** 950, [1, 9], 0), 10 ** 951)

    def test_gives_a_whole_number(self):
        self.assertIs(type(lay(7, [2, 3, 5], 1)), int)

    def test_a_sign_that_is_not_there_or_has_no_count(self):
        for counts in GOOD_COUNTS:
            for sign in not_there(counts):
                for pile in [0, 1, 10 ** 30]:
                    with self.subTest(counts=counts[:4], sign=sign):
                        self.assertRaises(NoSign, lay, pile, counts, sign)

    def test_low_piles(self):
        for pile in LOW_PILES:
            for sign in [0, 1, 2, 3, -1, 9]:
                with self.subTest(pile=pile, sign=sign):
                    self.assertRaises(NoPile, lay, pile, [2, 3, 5, 0], sign)

    def test_wrong_counts_go_ahead_of_all(self):
        for counts in WRONG_COUNTS:
            for pile in [0, 5, -1]:
                for sign in [0, -1, 200]:
                    with self.subTest(counts=counts[:4], pile=pile, sign=sign):
                        self.assertRaises(NoShares, lay, pile, counts, sign)


class TestTake(unittest.TestCase):
    def test_written_out(self):
        self.assertEqual(take(0, [2, 3, 5]), (0, 0))
        self.assertEqual(take(1, [2, 3, 5]), (0, 1))
        self.assertEqual(take(2, [2, 3, 5]), (1, 0))
        self.assertEqual(take(23, [2, 3, 5]), (1, 7))
        self.assertEqual(take(17, [2, 3, 5]), (2, 7))
        self.assertEqual(take(31, [2, 3, 5]), (0, 7))
        self.assertEqual(take(0, [0, 3, 0, 1]), (1, 0))
        self.assertEqual(take(35, [0, 3, 0, 1]), (3, 8))

    def test_many_figures(self):
        self.assertEqual(take(10 ** 899, [1, 9]), (0, 10 ** 898))
        self.assertEqual(take(10 ** 899 + 5, [1, 9]), (1, 9 * 10 ** 898 + 4))

    def test_somewhat_beyond_900_figures_is_not_refused(self):
        self.assertEqual(take(10 ** 951, [1, 9]), (0, 10 ** 950))

    def test_gives_a_tuple(self):
        self.assertIs(type(take(23, [2, 3, 5])), tuple)

    def test_the_sign_is_that_of_the_rest_by_the_whole(self):
        for counts in GOOD_COUNTS:
            signs = slot_signs(counts)
            for pile in list(range(0, 300)) + LARGE_PILES:
                with self.subTest(counts=counts[:4], pile=pile):
                    self.assertEqual(take(pile, counts)[0], signs[pile % len(signs)])

    def test_low_piles(self):
        for pile in LOW_PILES:
            with self.subTest(pile=pile):
                self.assertRaises(NoPile, take, pile, [2, 3, 5])

    def test_wrong_counts_go_ahead_of_a_low_pile(self):
        for counts in WRONG_COUNTS:
            for pile in [0, 5, -1]:
                with self.subTest(counts=counts[:4], pile=pile):
                    self.assertRaises(NoShares, take, pile, counts)


class TestEachUndoesTheOther(unittest.TestCase):
    def test_laid_and_taken(self):
        for counts in GOOD_COUNTS:
            for sign in there(counts):
                for pile in list(range(0, 40)) + LARGE_PILES:
                    with self.subTest(counts=counts[:4], sign=sign, pile=pile):
                        self.assertEqual(take(lay(pile, counts, sign), counts), (sign, pile))

    def test_taken_and_laid(self):
        for counts in GOOD_COUNTS:
            for pile in list(range(0, 300)) + LARGE_PILES:
                with self.subTest(counts=counts[:4], pile=pile):
                    sign, left = take(pile, counts)
                    self.assertGreaterEqual(left, 0)
                    self.assertEqual(lay(left, counts, sign), pile)


class TestLayRow(unittest.TestCase):
    def test_written_out(self):
        self.assertEqual(lay_row(0, [2, 3, 5], [1, 2]), 14)
        self.assertEqual(lay_row(7, [2, 3, 5], [0, 1]), 111)
        self.assertEqual(lay_row(7, [2, 3, 5], [1, 0]), 103)

    def test_no_signs(self):
        for pile in [0, 1] + LARGE_PILES:
            self.assertEqual(lay_row(pile, [2, 3, 5], []), pile)

    def test_one_sign(self):
        for sign in range(3):
            for pile in [0, 1, 7] + LARGE_PILES:
                self.assertEqual(lay_row(pile, [2, 3, 5], [sign]), lay(pile, [2, 3, 5], sign))

    def test_the_last_is_laid_first(self):
        pile = lay(lay(lay(12, [2, 3, 5], 1), [2, 3, 5], 2), [2, 3, 5], 0)
        self.assertEqual(lay_row(12, [2, 3, 5], [0, 2, 1]), pile)

    def test_a_sign_that_is_not_there_wherever_it_stands(self):
        counts = [2, 0, 3]
        for sign in [-HUGE, -3, -1, 1, 3, 4, HUGE]:
            for row in [[sign], [sign, 0, 2], [0, sign, 2], [0, 2, sign]]:
                with self.subTest(row=row):
                    self.assertRaises(NoSign, lay_row, 5, counts, row)
        for place in range(200):
            row = [0] * 200
            row[place] = 3
            self.assertRaises(NoSign, lay_row, 5, counts, row)

    def test_low_piles_go_ahead_of_a_wrong_sign(self):
        for pile in LOW_PILES:
            for row in [[], [0], [3], [0, -1, 0]]:
                with self.subTest(pile=pile, row=row):
                    self.assertRaises(NoPile, lay_row, pile, [2, 3, 5], row)

    def test_wrong_counts_go_ahead_of_all(self):
        for counts in WRONG_COUNTS:
            for pile in [0, -1]:
                for row in [[], [0], [200]]:
                    with self.subTest(counts=counts[:4], pile=pile, row=row):
                        self.assertRaises(NoShares, lay_row, pile, counts, row)


class TestTakeRow(unittest.TestCase):
    def test_written_out(self):
        self.assertEqual(take_row(14, [2, 3, 5], 2), ([1, 2], 0))
        self.assertEqual(take_row(111, [2, 3, 5], 2), ([0, 1], 7))
        self.assertEqual(take_row(111, [2, 3, 5], 1), ([0], 23))
        self.assertEqual(take_row(0, [2, 3, 5], 3), ([0, 0, 0], 0))

    def test_no_signs(self):
        for pile in [0, 1] + LARGE_PILES:
            self.assertEqual(take_row(pile, [2, 3, 5], 0), ([], pile))

    def test_gives_a_tuple_with_a_list(self):
        told = take_row(111, [2, 3, 5], 2)
        self.assertIs(type(told), tuple)
        self.assertIs(type(told[0]), list)

    def test_low_piles(self):
        for pile in LOW_PILES:
            for many in [0, 1, 200]:
                with self.subTest(pile=pile, many=many):
                    self.assertRaises(NoPile, take_row, pile, [2, 3, 5], many)

    def test_wrong_counts_go_ahead_of_a_low_pile(self):
        for counts in WRONG_COUNTS:
            for pile in [0, -1]:
                for many in [0, 1]:
                    with self.subTest(counts=counts[:4], pile=pile, many=many):
                        self.assertRaises(NoShares, take_row, pile, counts, many)


class TestRowsThereAndBack(unittest.TestCase):
    def test_laid_and_taken(self):
        for counts in GOOD_COUNTS:
            signs = there(counts)
            for length in [0, 1, 2, 3, 199, 200]:
                row = [signs[k] for k in row_of(len(signs), length)]
                for pile in [0, 1, 77, 10 ** 899]:
                    with self.subTest(counts=counts[:4], length=length, pile=pile):
                        laid = lay_row(pile, counts, row)
                        self.assertEqual(take_row(laid, counts, length), (row, pile))

    def test_taken_and_laid(self):
        for counts in GOOD_COUNTS:
            for many in [0, 1, 200]:
                for pile in [0, 1, 77] + LARGE_PILES:
                    with self.subTest(counts=counts[:4], many=many, pile=pile):
                        row, left = take_row(pile, counts, many)
                        self.assertEqual(len(row), many)
                        self.assertEqual(lay_row(left, counts, row), pile)

    def test_taken_from_first_to_last(self):
        row = row_of(3, 200)
        pile = lay_row(5, [2, 3, 5], row)
        for sign in row:
            taken, pile = take(pile, [2, 3, 5])
            self.assertEqual(taken, sign)
        self.assertEqual(pile, 5)

    def test_somewhat_more_than_200_signs_are_not_refused(self):
        row = row_of(3, 230)
        self.assertEqual(take_row(lay_row(5, [2, 3, 5], row), [2, 3, 5], 230), (row, 5))


class TestHandedIn(unittest.TestCase):
    def test_counts_and_row_stay_as_they_were(self):
        counts = [2, 0, 3]
        row = [0, 2, 2, 0, 2]
        lay(9, counts, 2)
        take(9, counts)
        lay_row(9, counts, row)
        take_row(9, counts, 5)
        self.assertEqual(counts, [2, 0, 3])
        self.assertEqual(row, [0, 2, 2, 0, 2])

    def test_a_refused_row_stays_as_it_was(self):
        counts = [2, 0, 3]
        for row in [[1, 0, 2], [0, 3, 2], [0, 2, -1]]:
            ahead = list(row)
            self.assertRaises(NoSign, lay_row, 9, counts, row)
            self.assertRaises(NoPile, lay_row, -9, counts, row)
            self.assertEqual(row, ahead)
        self.assertEqual(counts, [2, 0, 3])

    def test_counts_and_row_changed_between_two_calls(self):
        counts = [2, 3, 5]
        row = [0, 1]
        self.assertEqual(lay_row(7, counts, row), 111)
        row[0] = 1
        row[1] = 0
        self.assertEqual(lay_row(7, counts, row), 103)
        counts[2] = 0
        self.assertEqual(lay(7, counts, 1), 13)
        self.assertEqual(take(13, counts), (1, 7))
        self.assertRaises(NoSign, lay, 7, counts, 2)

    def test_each_list_told_is_one_of_its_own(self):
        for many in [0, 2]:
            one = take_row(111, [2, 3, 5], many)[0]
            other = take_row(111, [2, 3, 5], many)[0]
            self.assertIsNot(one, other)
            one.append(9)
            self.assertEqual(take_row(111, [2, 3, 5], many)[0], other)


if __name__ == "__main__":
    unittest.main()

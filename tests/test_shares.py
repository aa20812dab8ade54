"""Point 2, with what points 1 and 11 say of it."""

import unittest

from numberpile.errors import NoShares, NoSign, NoSlot
from numberpile.shares import first_of, sign_of, whole
from tests.cases import GOOD_COUNTS, WRONG_COUNTS, slot_signs

HUGE = 10 ** 899


class TestWhole(unittest.TestCase):
    def test_written_out(self):
        self.assertEqual(whole([1]), 1)
        self.assertEqual(whole([999]), 999)
        self.assertEqual(whole([2, 3, 5]), 10)
        self.assertEqual(whole([0, 4, 0]), 4)
        self.assertEqual(whole([1] * 100), 100)
        self.assertEqual(whole([999] * 100), 99900)

    def test_one_count_above_0_is_enough(self):
        self.assertEqual(whole([0] * 99 + [1]), 1)
        self.assertEqual(whole([1] + [0] * 99), 1)

    def test_wrong_counts(self):
        for counts in WRONG_COUNTS:
            with self.subTest(counts=counts[:4]):
                self.assertRaises(NoShares, whole, counts)


class TestFirstOf(unittest.TestCase):
    def test_written_out(self):
        self.assertEqual([first_of([2, 3, 5], sign) for sign in range(3)], [0, 2, 5])
        self.assertEqual(first_of([7], 0), 0)
        self.assertEqual(first_of([999] * 100, 99), 98901)

    def test_a_sign_whose_count_is_0(self):
        counts = [0, 4, 0, 0, 3, 0]
        self.assertEqual([first_of(counts, sign) for sign in range(6)], [0, 0, 4, 4, 4, 7])

    def test_sum_of_the_counts_ahead(self):
        for counts in GOOD_COUNTS:
            ahead = 0
            for sign, count in enumerate(counts):
                with self.subTest(counts=counts[:4], sign=sign):
                    self.assertEqual(first_of(counts, sign), ahead)
                ahead += count

    def test_a_sign_that_is_not_there(self):
        for counts in GOOD_COUNTS:
            for sign in [-HUGE, -len(counts), -2, -1, len(counts), len(counts) + 1, HUGE]:
                with self.subTest(counts=counts[:4], sign=sign):
                    self.assertRaises(NoSign, first_of, counts, sign)

    def test_wrong_counts_go_ahead_of_a_wrong_sign(self):
        for counts in WRONG_COUNTS:
            for sign in [0, -1, len(counts)]:
                with self.subTest(counts=counts[:4], sign=sign):
                    self.assertRaises(NoShares, first_of, counts, sign)


class TestSignOf(unittest.TestCase):
    def test_written_out(self):
        counts = [0, 2, 0, 3, 0]
        self.assertEqual([sign_of(counts, slot) for slot in range(5)], [1, 1, 3, 3, 3])
        self.assertEqual(sign_of([1], 0), 0)
        self.assertEqual(sign_of([1] * 100, 99), 99)

    def test_each_slot(self):
        for counts in GOOD_COUNTS:
            if sum(counts) < 2000:
                with self.subTest(counts=counts[:4]):
                    told = [sign_of(counts, slot) for slot in range(sum(counts))]
                    self.assertEqual(told, slot_signs(counts))

    def test_first_and_last_slot_of_each_stretch(self):
        for counts in GOOD_COUNTS:
            ahead = 0
            for sign, count in enumerate(counts):
                if count > 0:
                    with self.subTest(counts=counts[:4], sign=sign):
                        self.assertEqual(sign_of(counts, ahead), sign)
                        self.assertEqual(sign_of(counts, ahead + count - 1), sign)
                ahead += count

    def test_a_slot_that_is_not_there(self):
        for counts in GOOD_COUNTS:
            total = sum(counts)
            for slot in [-HUGE, -total, -1, total, total + 1, HUGE]:
                with self.subTest(counts=counts[:4], slot=slot):
                    self.assertRaises(NoSlot, sign_of, counts, slot)

    def test_wrong_counts_go_ahead_of_a_wrong_slot(self):
        for counts in WRONG_COUNTS:
            for slot in [0, -1, HUGE]:
                with self.subTest(counts=counts[:4], slot=slot):
                    self.assertRaises(NoShares, sign_of, counts, slot)


class TestHandedIn(unittest.TestCase):
    def test_the_counts_stay_as_they_were(self):
        for counts in GOOD_COUNTS:
            ahead = list(counts)
            whole(counts)
            first_of(counts, len(counts) - 1)
            sign_of(counts, sum(counts) - 1)
            self.assertEqual(counts, ahead)

    def test_refused_counts_stay_as_they_were(self):
        for counts in WRONG_COUNTS:
            ahead = list(counts)
            self.assertRaises(NoShares, whole, counts)
            self.assertRaises(NoShares, first_of, counts, 0)
            self.assertRaises(NoShares, sign_of, counts, 0)
            self.assertEqual(counts, ahead)

    def test_counts_changed_between_two_calls(self):
        counts = [2, 3]
        self.assertEqual((whole(counts), first_of(counts, 1), sign_of(counts, 2)), (5, 2, 1))
        counts[0] = 4
        self.assertEqual((whole(counts), first_of(counts, 1), sign_of(counts, 2)), (7, 4, 0))
        counts.append(6)
        self.assertEqual((whole(counts), first_of(counts, 2), sign_of(counts, 7)), (13, 7, 2))
        counts[0] = 1000
        self.assertRaises(NoShares, whole, counts)


if __name__ == "__main__":
    unittest.main()

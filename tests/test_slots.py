"""Point 9, with what points 1 and 11 say of it."""

import math
import unittest

from numberpile.errors import NoMore, NoPile, NoShares, NoSign, NoSlot
from numberpile.slots import Slots
from tests.cases import GOOD_COUNTS, HUGE, WRONG_COUNTS, not_there, row_of, there

# Wholes of each size from 1 on, with counts of 0 among them.
SMALL_COUNTS = [[total] for total in range(1, 40)]
SMALL_COUNTS += [[0, total // 3, 0, total - total // 3, 0] for total in range(1, 80)]
SMALL_COUNTS += [[2, 3, 5], [1, 1], [0, 0, 3, 0, 0, 2, 0], [7, 0, 0, 9, 14], [1] * 30, [0] * 99 + [5]]

# The largest wholes are left to the tests that walk no slot by slot.
WALKED_COUNTS = SMALL_COUNTS + [counts for counts in GOOD_COUNTS if sum(counts) < 2000]


def row_for(counts, length, seed=1):
    signs = there(counts)
    return [signs[k] for k in row_of(len(signs), length, seed)]


def step_for(total):
    return next(step for step in range(total // 2 + total // 8 + 3, 10 ** 6) if math.gcd(step, total) == 1)


def dealt_for(counts):
    """The sign of each slot, by the words of the point."""
    total = sum(counts)
    hand = [sign for sign, count in enumerate(counts) for turn in range(count)]
    slots = {turn * step_for(total) % total: sign for turn, sign in enumerate(hand)}
    return [slots[slot] for slot in range(total)]


def laid_for(counts, number, row):
    """Number and bits of a row laid, by the words of the point."""
    total = sum(counts)
    signs = dealt_for(counts)
    bits = []
    for sign in row[::-1]:
        count = counts[sign]
        while not number < 2 * count:
            number, bit = divmod(number, 2)
            bits.append(bit)
        own = [slot for slot in range(total) if signs[slot] == sign]
        number = total + own[number - count]
    return (number, bits)


def low_and_high(total):
    return [-HUGE, -total, -1, 0, total - 1, 2 * total, 2 * total + 1, HUGE]


class TestDealt(unittest.TestCase):
    def test_written_out(self):
        self.assertEqual(Slots([1]).dealt(), [0])
        self.assertEqual(Slots([1, 1]).dealt(), [0, 1])
        self.assertEqual(Slots([2, 3]).dealt(), [0, 0, 1, 1, 1])
        self.assertEqual(Slots([2, 3, 5]).dealt(), [0, 2, 2, 2, 2, 2, 1, 1, 1, 0])
        self.assertEqual(Slots([0, 3, 0, 4]).dealt(), [1, 3, 3, 3, 3, 1, 1])
        self.assertEqual(Slots([4, 0, 12, 0]).dealt(), [0, 2, 2, 2, 2, 2, 2, 0, 2, 2, 0, 2, 2, 0, 2, 2])

    def test_by_the_step(self):
        for counts in WALKED_COUNTS:
            with self.subTest(counts=counts[:6]):
                self.assertEqual(Slots(counts).dealt(), dealt_for(counts))

    def test_the_step_is_sought_on_where_divisors_are_shared(self):
        # For 30 it goes from 21 on to 23, for 210 from 134 on to 137.
        self.assertEqual((step_for(30), step_for(210)), (23, 137))
        signs = Slots([1] * 30).dealt()
        self.assertEqual((signs[0], signs[23], signs[16], signs[9]), (0, 1, 2, 3))
        signs = Slots([2, 1, 207]).dealt()
        self.assertEqual([slot for slot in range(210) if signs[slot] < 2], [0, 64, 137])
        self.assertEqual(signs[64], 1)

    def test_each_sign_as_often_as_its_count(self):
        for counts in GOOD_COUNTS:
            signs = Slots(counts).dealt()
            self.assertEqual([signs.count(sign) for sign in range(len(counts))], counts)

    def test_the_largest_whole(self):
        counts = [999] * 100
        self.assertEqual(Slots(counts).dealt(), dealt_for(counts))

    def test_wrong_counts(self):
        for counts in WRONG_COUNTS:
            with self.subTest(counts=counts[:4]):
                self.assertRaises(NoShares, Slots, counts)


class TestRaisedAndLowered(unittest.TestCase):
    def test_written_out(self):
        slots = Slots([2, 3, 5])
        self.assertEqual([slots.raised(0, number) for number in [2, 3]], [10, 19])
        self.assertEqual([slots.raised(1, number) for number in [3, 4, 5]], [16, 17, 18])
        self.assertEqual([slots.raised(2, number) for number in [5, 6, 7, 8, 9]], [11, 12, 13, 14, 15])
        self.assertEqual(slots.lowered(10), (0, 2))
        self.assertEqual(slots.lowered(19), (0, 3))
        self.assertEqual(slots.lowered(17), (1, 4))
        self.assertEqual(slots.lowered(15), (2, 9))
        self.assertEqual(Slots([1]).raised(0, 1), 1)
        self.assertEqual(Slots([1]).lowered(1), (0, 1))

    def test_the_least_slot_has_the_least_number(self):
        for counts in WALKED_COUNTS:
            slots = Slots(counts)
            total = sum(counts)
            signs = dealt_for(counts)
            for sign in there(counts):
                own = [total + slot for slot in range(total) if signs[slot] == sign]
                count = counts[sign]
                with self.subTest(counts=counts[:6], sign=sign):
                    self.assertEqual([slots.raised(sign, number) for number in range(count, 2 * count)], own)

    def test_each_undoes_the_other_and_no_slot_comes_twice(self):
        for counts in WALKED_COUNTS + [[999] * 100]:
            slots = Slots(counts)
            total = sum(counts)
            come = []
            for sign in there(counts):
                for number in range(counts[sign], 2 * counts[sign]):
                    raised = slots.raised(sign, number)
                    self.assertEqual(slots.lowered(raised), (sign, number))
                    come.append(raised)
            self.assertEqual(sorted(come), list(range(total, 2 * total)))
            for number in range(total, 2 * total):
                self.assertEqual(slots.raised(*slots.lowered(number)), number)

    def test_lowered_gives_a_tuple(self):
        self.assertIs(type(Slots([2, 3, 5]).lowered(12)), tuple)

    def test_raised_by_a_number_that_is_not_there(self):
        for counts in WALKED_COUNTS:
            slots = Slots(counts)
            for sign in there(counts):
                count = counts[sign]
                for number in [-HUGE, -count, -1, 0, count - 1, 2 * count, 2 * count + 1, HUGE]:
                    with self.subTest(counts=counts[:6], sign=sign, number=number):
                        self.assertRaises(NoSlot, slots.raised, sign, number)

    def test_raised_a_sign_that_is_not_there_goes_ahead_of_the_number(self):
        for counts in WALKED_COUNTS:
            slots = Slots(counts)
            for sign in not_there(counts):
                for number in [-1, 0, 1, 2, sum(counts), HUGE]:
                    with self.subTest(counts=counts[:6], sign=sign, number=number):
                        self.assertRaises(NoSign, slots.raised, sign, number)

    def test_lowered_a_number_that_is_not_there(self):
        for counts in WALKED_COUNTS:
            slots = Slots(counts)
            for number in low_and_high(sum(counts)):
                with self.subTest(counts=counts[:6], number=number):
                    self.assertRaises(NoPile, slots.lowered, number)


class TestLaid(unittest.TestCase):
    def test_written_out(self):
        self.assertEqual(Slots([1, 1]).laid(3, [0]), (2, [1]))
        self.assertEqual(Slots([1, 1]).laid(2, [1, 0]), (3, [0, 0]))
        self.assertEqual(Slots([2, 3, 5]).laid(15, [0]), (19, [1, 1]))
        self.assertEqual(Slots([2, 3, 5]).laid(15, [2, 0]), (15, [1, 1, 1]))
        self.assertEqual(Slots([2, 3, 5]).laid(15, [0, 2]), (19, [1, 1, 0]))

    def test_by_the_point(self):
        for counts in SMALL_COUNTS:
            total = sum(counts)
            slots = Slots(counts)
            for length in [1, 2, 7]:
                row = row_for(counts, length, total)
                for number in [total, total + total // 2, 2 * total - 1]:
                    with self.subTest(counts=counts[:6], row=row, number=number):
                        self.assertEqual(slots.laid(number, row), laid_for(counts, number, row))

    def test_no_signs(self):
        for number in range(10, 20):
            self.assertEqual(Slots([2, 3, 5]).laid(number, []), (number, []))

    def test_gives_a_tuple_with_a_list_of_bits(self):
        told = Slots([2, 3, 5]).laid(15, row_of(3, 200))
        self.assertIs(type(told), tuple)
        self.assertIs(type(told[1]), list)
        self.assertEqual(sorted(set(told[1])), [0, 1])

    def test_a_number_that_is_not_there_goes_ahead_of_a_wrong_sign(self):
        slots = Slots([2, 0, 5])
        for number in low_and_high(7):
            for row in [[], [0], [1], [-1], [3], [0, 3, 0]]:
                with self.subTest(number=number, row=row):
                    self.assertRaises(NoPile, slots.laid, number, row)

    def test_a_sign_that_is_not_there_wherever_it_stands(self):
        counts = [2, 0, 3]
        slots = Slots(counts)
        for sign in not_there(counts):
            for row in [[sign], [sign, 0, 2], [0, sign, 2], [0, 2, sign]]:
                for number in range(5, 10):
                    with self.subTest(row=row, number=number):
                        self.assertRaises(NoSign, slots.laid, number, row)
        for place in range(200):
            row = [0] * 200
            row[place] = 3
            self.assertRaises(NoSign, slots.laid, 5, row)

    def test_used_on_behind_a_refusal(self):
        slots = Slots([2, 3, 5])
        self.assertRaises(NoSign, slots.laid, 15, [3, 0])
        self.assertRaises(NoPile, slots.laid, 20, [0])
        self.assertRaises(NoMore, slots.taken, 19, [1], 1)
        self.assertEqual(slots.laid(15, [0]), (19, [1, 1]))


class TestTaken(unittest.TestCase):
    def test_written_out(self):
        self.assertEqual(Slots([1, 1]).taken(2, [1], 1), ([0], 3, []))
        self.assertEqual(Slots([1, 1]).taken(3, [0, 0], 2), ([1, 0], 2, []))
        self.assertEqual(Slots([2, 3, 5]).taken(19, [1, 1], 1), ([0], 15, []))
        self.assertEqual(Slots([2, 3, 5]).taken(19, [1, 1, 0], 2), ([0, 2], 15, []))
        self.assertEqual(Slots([2, 3, 5]).taken(19, [0, 0, 1, 1], 1), ([0], 15, [0, 0]))

    def test_no_signs(self):
        for bits in [[], [1], [0, 1, 1]]:
            self.assertEqual(Slots([2, 3, 5]).taken(13, bits, 0), ([], 13, bits))

    def test_gives_a_tuple_with_two_lists(self):
        told = Slots([2, 3, 5]).taken(19, [0, 1, 1], 1)
        self.assertIs(type(told), tuple)
        self.assertIs(type(told[0]), list)
        self.assertIs(type(told[2]), list)

    def test_a_row_laid_and_taken_again(self):
        for counts in GOOD_COUNTS:
            slots = Slots(counts)
            total = sum(counts)
            for length in [0, 1, 2, 3, 199, 200]:
                row = row_for(counts, length)
                for ahead in [[], [0], [1], [1, 0, 0, 1, 1]]:
                    for number in [total, total + total // 3, 2 * total - 1]:
                        with self.subTest(counts=counts[:4], length=length, number=number):
                            laid, bits = slots.laid(number, row)
                            self.assertTrue(total <= laid < 2 * total)
                            self.assertEqual(slots.taken(laid, ahead + bits, length), (row, number, ahead))

    def test_taken_from_the_first_sign_one_by_one(self):
        slots = Slots([2, 3, 5])
        row = row_of(3, 50)
        number, bits = slots.laid(14, row)
        for sign in row:
            taken, number, bits = slots.taken(number, bits, 1)
            self.assertEqual(taken, [sign])
        self.assertEqual((number, bits), (14, []))

    def test_a_bit_left_out(self):
        for counts in GOOD_COUNTS:
            slots = Slots(counts)
            for length in [1, 5, 200]:
                for number in [sum(counts), 2 * sum(counts) - 1]:
                    laid, bits = slots.laid(number, row_for(counts, length))
                    if bits:
                        with self.subTest(counts=counts[:4], length=length, number=number):
                            self.assertRaises(NoMore, slots.taken, laid, bits[1:], length)
                            self.assertRaises(NoMore, slots.taken, laid, [], length)

    def test_one_bit_where_two_are_needed(self):
        self.assertRaises(NoMore, Slots([2, 3, 5]).taken, 19, [1], 1)
        self.assertRaises(NoMore, Slots([2, 3, 5]).taken, 19, [], 1)

    def test_one_sign_alone_needs_no_bits(self):
        for number in range(7, 14):
            self.assertEqual(Slots([7]).laid(number, [0] * 200), (number, []))
            self.assertEqual(Slots([7]).taken(number, [], 200), ([0] * 200, number, []))
            self.assertEqual(Slots([0, 7]).taken(number, [1], 3), ([1, 1, 1], number, [1]))

    def test_a_number_that_is_not_there_goes_ahead_of_lacking_bits(self):
        slots = Slots([2, 3, 5])
        for number in low_and_high(10):
            for bits in [[], [1, 0, 1]]:
                for many in [0, 1, 200]:
                    with self.subTest(number=number, bits=bits, many=many):
                        self.assertRaises(NoPile, slots.taken, number, bits, many)

    def test_the_least_and_the_greatest_number_are_not_refused(self):
        slots = Slots([2, 3, 5])
        for number in [10, 19]:
            self.assertEqual(slots.laid(number, []), (number, []))
            self.assertEqual(slots.taken(number, [], 0), ([], number, []))

    def test_somewhat_more_than_200_signs_are_not_refused(self):
        slots = Slots([2, 3, 5])
        row = row_of(3, 230)
        number, bits = slots.laid(11, row)
        self.assertEqual(slots.taken(number, bits, 230), (row, 11, []))


class TestHandedInAndTold(unittest.TestCase):
    def test_the_lists_handed_in_stay_as_they_were(self):
        counts = [2, 0, 3]
        row = [0, 2, 2, 0, 2]
        slots = Slots(counts)
        number, bits = slots.laid(7, row)
        ahead = list(bits)
        slots.taken(number, bits, 5)
        self.assertEqual((counts, row, bits), ([2, 0, 3], [0, 2, 2, 0, 2], ahead))

    def test_refused_lists_stay_as_they_were(self):
        slots = Slots([2, 0, 3])
        bits = [1]
        self.assertRaises(NoMore, slots.taken, 7, bits, 50)
        self.assertRaises(NoPile, slots.taken, 4, bits, 1)
        self.assertEqual(bits, [1])
        row = [0, 1, 2]
        self.assertRaises(NoSign, slots.laid, 7, row)
        self.assertRaises(NoPile, slots.laid, 4, row)
        self.assertEqual(row, [0, 1, 2])
        counts = [2, 1000]
        self.assertRaises(NoShares, Slots, counts)
        self.assertEqual(counts, [2, 1000])

    def test_the_counts_may_be_changed(self):
        counts = [2, 3, 5]
        slots = Slots(counts)
        counts[0] = 0
        counts[2] = 9
        counts.append(4)
        self.assertEqual(slots.dealt(), [0, 2, 2, 2, 2, 2, 1, 1, 1, 0])
        self.assertEqual(slots.raised(0, 3), 19)
        self.assertEqual(slots.lowered(15), (2, 9))
        self.assertRaises(NoSlot, slots.raised, 2, 10)
        self.assertRaises(NoSign, slots.raised, 3, 4)
        counts.clear()
        self.assertEqual(slots.laid(15, [2, 0]), (15, [1, 1, 1]))
        self.assertEqual(slots.taken(15, [1, 1, 1], 2), ([2, 0], 15, []))

    def test_the_lists_told_may_be_changed(self):
        slots = Slots([2, 3, 5])
        signs = slots.dealt()
        signs[0] = 2
        signs.clear()
        self.assertEqual(slots.dealt(), [0, 2, 2, 2, 2, 2, 1, 1, 1, 0])
        self.assertEqual(slots.lowered(10), (0, 2))
        slots.laid(15, [])[1].append(1)
        self.assertEqual(slots.laid(15, []), (15, []))

    def test_each_list_told_is_one_of_its_own(self):
        slots = Slots([2, 3, 5])
        self.assertIsNot(slots.dealt(), slots.dealt())
        self.assertIsNot(slots.laid(15, [])[1], slots.laid(15, [])[1])
        for bits, many in [([], 0), ([1, 1], 0), ([1, 1], 1), ([1, 1, 0], 2)]:
            ahead = list(bits)
            told = slots.taken(19, bits, many)
            self.assertIsNot(told[0], told[2])
            told[0].append(5)
            told[2].append(5)
            self.assertEqual(bits, ahead)
            self.assertEqual(len(slots.taken(19, bits, many)[0]), many)

    def test_two_of_the_same_counts_have_nothing_in_common(self):
        one = Slots([2, 3, 5])
        one.dealt().clear()
        self.assertEqual(one.dealt(), Slots([2, 3, 5]).dealt())


if __name__ == "__main__":
    unittest.main()

"""Point 7, with what points 1 and 11 say of it."""

import unittest

from numberpile.errors import NoMore, NoShares, NoSign
from numberpile.streams import Stream
from tests.cases import GOOD_COUNTS, HUGE, WRONG_COUNTS, not_there, row_of, there

WRONG_BASES = [-HUGE, -2, -1, 0, 1, 1001, 1002, HUGE]
WRONG_GRAINS = [-HUGE, -4, -1, 0, 101, 102, HUGE]
NUMBERS = [(2, 1), (2, 4), (2, 100), (3, 1), (10, 4), (256, 7), (1000, 1), (1000, 100)]


def row_for(counts, length, seed=1):
    signs = there(counts)
    return [signs[k] for k in row_of(len(signs), length, seed)]


def reckoned(counts, base, grain, row):
    """What a stream tells at first and behind each sign of the row, by the words of the point."""
    total = sum(counts)
    number = grain * total
    words = []
    told = [(number, words)]
    for sign in row:
        count = counts[sign]
        while not number < grain * base * count:
            number, word = divmod(number, base)
            words = words + [word]
        times, rest = divmod(number, count)
        number = times * total + sum(counts[:sign]) + rest
        told.append((number, words))
    return told


def laid(stream, row):
    for sign in row:
        stream.lay_sign(sign)
    return stream


class TestMade(unittest.TestCase):
    def test_at_first(self):
        self.assertEqual(Stream([2, 3, 5], 10, 4).told(), (40, []))
        self.assertEqual(Stream([1], 2, 1).told(), (1, []))
        for counts in GOOD_COUNTS:
            for base, grain in NUMBERS:
                self.assertEqual(Stream(counts, base, grain).told(), (grain * sum(counts), []))

    def test_the_grain_left_out_is_4(self):
        self.assertEqual(Stream([2, 3, 5], 10).told(), (40, []))
        row = row_of(3, 60)
        one = laid(Stream([2, 3, 5], 10), row)
        self.assertEqual(one.told(), laid(Stream([2, 3, 5], 10, 4), row).told())
        self.assertNotEqual(one.told(), laid(Stream([2, 3, 5], 10, 5), row).told())

    def test_by_the_names_of_the_arguments(self):
        self.assertEqual(Stream(counts=[2, 3], base=7, grain=9).told(), (45, []))
        self.assertEqual(Stream([2, 3], 7, grain=9).told(), (45, []))

    def test_the_least_and_the_greatest_base_and_grain(self):
        for base in [2, 3, 999, 1000]:
            for grain in [1, 2, 99, 100]:
                self.assertEqual(Stream([2, 3], base, grain).told(), (5 * grain, []))

    def test_wrong_bases(self):
        for base in WRONG_BASES:
            with self.subTest(base=base):
                self.assertRaises(NoShares, Stream, [2, 3], base)
                self.assertRaises(NoShares, Stream, [2, 3], base, 1)
                self.assertRaises(NoShares, Stream, [2, 3], base, 100)

    def test_wrong_grains(self):
        for grain in WRONG_GRAINS:
            for base in [2, 10, 1000]:
                with self.subTest(grain=grain, base=base):
                    self.assertRaises(NoShares, Stream, [2, 3], base, grain)

    def test_wrong_counts(self):
        for counts in WRONG_COUNTS:
            with self.subTest(counts=counts[:4]):
                self.assertRaises(NoShares, Stream, counts, 10)
                self.assertRaises(NoShares, Stream, counts, 10, 1)
                self.assertRaises(NoShares, Stream, counts, 1, 0)


class TestLaid(unittest.TestCase):
    def test_written_out(self):
        stream = Stream([2, 3, 5], 10)
        told = []
        for sign in [0, 0, 1, 2]:
            stream.lay_sign(sign)
            told.append(stream.told())
        self.assertEqual(told, [(200, []), (100, [0]), (333, [0]), (68, [0, 3])])

    def test_written_out_with_the_least_numbers(self):
        stream = Stream([1, 1], 2, 1)
        told = []
        for sign in [1, 0, 0, 1]:
            stream.lay_sign(sign)
            told.append(stream.told())
        self.assertEqual(told, [(3, [0]), (2, [0, 1]), (2, [0, 1, 0]), (3, [0, 1, 0, 0])])

    def test_several_words_for_one_sign(self):
        stream = Stream([1, 15], 2, 1)
        stream.lay_sign(0)
        self.assertEqual(stream.told(), (16, [0, 0, 0, 0]))
        stream.lay_sign(1)
        self.assertEqual(stream.told(), (18, [0, 0, 0, 0]))
        stream.lay_sign(0)
        self.assertEqual(stream.told(), (16, [0, 0, 0, 0, 0, 1, 0, 0]))

    def test_a_number_just_at_the_bound_and_just_below(self):
        # The bound of sign 0 is 4 by the first counts and 6 by the others; the numbers ahead are 4, and 4, 5, 6.
        self.assertEqual(laid(Stream([2, 2], 2, 1), [0]).told(), (4, [0]))
        self.assertEqual(laid(Stream([3, 1], 2, 1), [0]).told(), (5, []))
        self.assertEqual(laid(Stream([3, 1], 2, 1), [0, 0]).told(), (6, []))
        self.assertEqual(laid(Stream([3, 1], 2, 1), [0, 0, 0]).told(), (4, [0]))

    def test_reckoned_by_the_point(self):
        for counts in GOOD_COUNTS:
            row = row_for(counts, 40)
            for base, grain in NUMBERS:
                stream = Stream(counts, base, grain)
                for place, told in enumerate(reckoned(counts, base, grain, row)):
                    with self.subTest(counts=counts[:4], base=base, grain=grain, place=place):
                        self.assertEqual(stream.told(), told)
                    if place < len(row):
                        stream.lay_sign(row[place])

    def test_number_and_words_within_their_bounds(self):
        for counts in GOOD_COUNTS:
            for base, grain in NUMBERS:
                low = grain * sum(counts)
                stream = Stream(counts, base, grain)
                for sign in row_for(counts, 60, 8):
                    stream.lay_sign(sign)
                    number, words = stream.told()
                    self.assertTrue(low <= number < low * base)
                    self.assertTrue(all(0 <= word < base for word in words))

    def test_gives_back_none(self):
        stream = Stream([2, 3, 5], 2)
        for sign in [0, 1, 2, 0, 0]:
            self.assertIsNone(stream.lay_sign(sign))

    def test_a_sign_that_is_not_there_or_has_no_count(self):
        for counts in GOOD_COUNTS:
            for row in [[], row_for(counts, 20)]:
                stream = laid(Stream(counts, 10, 3), row)
                told = stream.told()
                for sign in not_there(counts):
                    with self.subTest(counts=counts[:4], sign=sign):
                        self.assertRaises(NoSign, stream.lay_sign, sign)
                        self.assertEqual(stream.told(), told)

    def test_laid_on_behind_a_refusal(self):
        stream = laid(Stream([2, 0, 5], 3), [0, 2, 2])
        self.assertRaises(NoSign, stream.lay_sign, 1)
        self.assertRaises(NoSign, stream.lay_sign, 3)
        laid(stream, [0, 0])
        self.assertEqual(stream.told(), laid(Stream([2, 0, 5], 3), [0, 2, 2, 0, 0]).told())

    def test_somewhat_more_than_200_signs(self):
        row = row_of(3, 500)
        stream = laid(Stream([2, 3, 5], 2), row)
        self.assertEqual(stream.told(), reckoned([2, 3, 5], 2, 4, row)[-1])


class TestTaken(unittest.TestCase):
    def test_written_out(self):
        stream = laid(Stream([2, 3, 5], 10), [0, 0, 1, 2])
        self.assertEqual(stream.take_sign(), 2)
        self.assertEqual(stream.told(), (333, [0]))
        self.assertEqual(stream.take_sign(), 1)
        self.assertEqual(stream.told(), (100, [0]))
        self.assertEqual(stream.take_sign(), 0)
        self.assertEqual(stream.told(), (200, []))
        self.assertEqual(stream.take_sign(), 0)
        self.assertEqual(stream.told(), (40, []))
        self.assertRaises(NoMore, stream.take_sign)

    def test_from_the_last_laid_to_the_first(self):
        for counts in GOOD_COUNTS:
            row = row_for(counts, 40, 3)
            for base, grain in NUMBERS:
                stream = laid(Stream(counts, base, grain), row)
                told = reckoned(counts, base, grain, row)
                for place in range(len(row) - 1, -1, -1):
                    with self.subTest(counts=counts[:4], base=base, grain=grain, place=place):
                        self.assertEqual(stream.take_sign(), row[place])
                        self.assertEqual(stream.told(), told[place])

    def test_laid_again_behind_takings(self):
        stream = laid(Stream([2, 3, 5], 3, 2), [0, 1, 2, 2, 0])
        self.assertEqual([stream.take_sign(), stream.take_sign()], [0, 2])
        laid(stream, [1, 1, 0])
        self.assertEqual(stream.told(), laid(Stream([2, 3, 5], 3, 2), [0, 1, 2, 1, 1, 0]).told())

    def test_no_more(self):
        for counts in GOOD_COUNTS:
            if len(there(counts)) > 1:
                for base, grain in NUMBERS:
                    for length in [0, 1, 20]:
                        stream = laid(Stream(counts, base, grain), row_for(counts, length))
                        for place in range(length):
                            stream.take_sign()
                        for turn in range(3):
                            self.assertRaises(NoMore, stream.take_sign)
                            self.assertEqual(stream.told(), (grain * sum(counts), []))

    def test_used_on_behind_no_more(self):
        stream = Stream([2, 3, 5], 10)
        self.assertRaises(NoMore, stream.take_sign)
        laid(stream, [0, 0, 1, 2])
        self.assertEqual(stream.told(), (68, [0, 3]))
        self.assertEqual([stream.take_sign() for turn in range(4)], [2, 1, 0, 0])

    def test_one_sign_alone(self):
        # Laid by its whole, a sign leaves the number, so there is always one more to be taken.
        for counts in [[1], [7], [999], [0, 7, 0], [0] * 99 + [3]]:
            sign = there(counts)[0]
            for base, grain in NUMBERS:
                stream = Stream(counts, base, grain)
                ahead = (grain * sum(counts), [])
                for turn in range(5):
                    self.assertEqual(stream.take_sign(), sign)
                    self.assertEqual(stream.told(), ahead)
                for turn in range(5):
                    self.assertIsNone(stream.lay_sign(sign))
                    self.assertEqual(stream.told(), ahead)


class TestHandedInAndTold(unittest.TestCase):
    def test_told_is_a_tuple_with_a_list(self):
        for row in [[], [0, 0, 0, 0, 0]]:
            told = laid(Stream([2, 3, 5], 2), row).told()
            self.assertIs(type(told), tuple)
            self.assertIs(type(told[0]), int)
            self.assertIs(type(told[1]), list)

    def test_the_list_told_may_be_changed(self):
        for row in [[], [0, 0, 1, 2, 0, 0]]:
            stream = laid(Stream([2, 3, 5], 10), row)
            number, words = stream.told()
            kept = list(words)
            words.append(7)
            words[0] = 9
            self.assertEqual(stream.told(), (number, kept))
            self.assertIsNot(stream.told()[1], stream.told()[1])
            self.assertEqual([stream.take_sign() for sign in row], row[::-1])

    def test_the_list_told_stays_behind_layings_and_takings(self):
        stream = laid(Stream([2, 3, 5], 10), [0, 0, 1, 2])
        told = stream.told()
        laid(stream, [0, 0, 0])
        self.assertEqual(told, (68, [0, 3]))
        for turn in range(7):
            stream.take_sign()
        self.assertEqual(told, (68, [0, 3]))

    def test_the_counts_stay_and_may_be_changed(self):
        counts = [2, 3, 5]
        stream = Stream(counts, 10)
        laid(stream, [0, 0])
        self.assertEqual(counts, [2, 3, 5])
        counts[1] = 0
        counts[2] = 1000
        counts.append(4)
        laid(stream, [1, 2])
        self.assertEqual(stream.told(), (68, [0, 3]))
        self.assertRaises(NoSign, stream.lay_sign, 3)
        counts.clear()
        self.assertEqual([stream.take_sign() for turn in range(4)], [2, 1, 0, 0])

    def test_refused_counts_stay(self):
        counts = [2, 1000, -5]
        self.assertRaises(NoShares, Stream, counts, 10)
        self.assertEqual(counts, [2, 1000, -5])

    def test_two_streams_have_nothing_in_common(self):
        counts = [2, 3, 5]
        one = Stream(counts, 10)
        other = Stream(counts, 10)
        laid(one, [0, 0, 1, 2])
        self.assertEqual(other.told(), (40, []))


if __name__ == "__main__":
    unittest.main()

"""Point 6, with what points 1 and 11 say of it."""

import unittest

from numberpile.errors import NoPile, NoSign
from numberpile.models import Follower, Learner, Plain, press, read
from numberpile.piles import lay, lay_row, take, take_row
from tests.cases import GOOD_COUNTS, LARGE_PILES, LOW_PILES, row_of

HUGE = 10 ** 899


def models():
    """Models of each kind, ahead of the first sign and behind some."""
    made = []
    for many in [1, 2, 3, 100]:
        made.append(Plain([(sign * 7) % 5 + 1 for sign in range(many)]))
        for step in [1, 4, 9]:
            made.append(Learner(many, step))
            made.append(Follower(many, step))
    for model in list(made):
        other = model.fresh()
        for sign in row_of(model.many, 25, 9):
            other.see(sign)
        made.append(other)
    return made


def pressed(pile, model, row):
    """The pile, each sign laid behind a fresh model of its own that saw the signs ahead."""
    for place in range(len(row) - 1, -1, -1):
        fresh = model.fresh()
        for sign in row[:place]:
            fresh.see(sign)
        pile = lay(pile, fresh.counts(), row[place])
    return pile


class TestPress(unittest.TestCase):
    def test_learner_written_out(self):
        self.assertEqual(press(0, Learner(2), [0, 0, 1]), 8)
        self.assertEqual(press(0, Learner(2), [1, 0, 0]), 1)
        self.assertEqual(press(5, Learner(2), [0, 1]), 34)
        self.assertEqual(press(0, Learner(2, 2), [1, 1]), 3)

    def test_follower_written_out(self):
        self.assertEqual(press(0, Follower(2), [0, 0, 1]), 8)
        self.assertEqual(press(0, Follower(2, 3), [1, 1, 1, 0]), 7)
        self.assertEqual(press(5, Follower(2), [0, 1, 1]), 46)
        self.assertEqual(press(5, Follower(2), [0, 0, 1, 0, 0]), 224)

    def test_plain_is_the_row_by_its_counts(self):
        for counts in GOOD_COUNTS:
            signs = [sign for sign, count in enumerate(counts) if count > 0]
            row = [signs[k] for k in row_of(len(signs), 60)]
            for pile in [0, 1, 10 ** 30]:
                with self.subTest(counts=counts[:4], pile=pile):
                    self.assertEqual(press(pile, Plain(counts), row), lay_row(pile, counts, row))

    def test_each_by_the_counts_behind_the_signs_ahead(self):
        for model in models():
            row = row_of(model.many, 30, 4)
            for pile in [0, 1, 12345]:
                with self.subTest(model=model, pile=pile):
                    self.assertEqual(press(pile, model, row), pressed(pile, model, row))

    def test_no_signs(self):
        for model in models():
            for pile in [0, 1] + LARGE_PILES:
                self.assertEqual(press(pile, model, []), pile)

    def test_one_sign(self):
        for model in models():
            sign = model.many - 1
            self.assertEqual(press(9, model, [sign]), lay(9, model.fresh().counts(), sign))

    def test_a_sign_that_is_not_there_wherever_it_stands(self):
        for model in [Plain([2, 3, 5]), Learner(3), Follower(3, 2)]:
            for sign in [-HUGE, -3, -1, 3, 4, HUGE]:
                for row in [[sign], [sign, 0, 2], [0, sign, 2], [0, 2, sign]]:
                    with self.subTest(model=model, row=row):
                        self.assertRaises(NoSign, press, 5, model, row)

    def test_a_sign_whose_count_is_0_wherever_it_stands(self):
        for row in [[1], [1, 0, 2], [0, 1, 2], [0, 2, 1]]:
            self.assertRaises(NoSign, press, 5, Plain([2, 0, 5]), row)

    def test_low_piles_go_ahead_of_a_wrong_sign(self):
        for model in [Plain([2, 0, 5]), Learner(3), Follower(3, 2)]:
            for pile in LOW_PILES:
                for row in [[], [0], [1], [-1], [3], [0, 3, 0]]:
                    with self.subTest(model=model, pile=pile, row=row):
                        self.assertRaises(NoPile, press, pile, model, row)


class TestRead(unittest.TestCase):
    def test_learner_written_out(self):
        self.assertEqual(read(8, Learner(2), 3), ([0, 0, 1], 0))
        self.assertEqual(read(34, Learner(2), 2), ([0, 1], 5))
        self.assertEqual(read(34, Learner(2), 1), ([0], 17))

    def test_follower_written_out(self):
        self.assertEqual(read(46, Follower(2), 3), ([0, 1, 1], 5))
        self.assertEqual(read(7, Follower(2, 3), 4), ([1, 1, 1, 0], 0))
        self.assertEqual(read(224, Follower(2), 5), ([0, 0, 1, 0, 0], 5))

    def test_plain_is_the_row_by_its_counts(self):
        for counts in GOOD_COUNTS:
            for pile in [0, 1, 10 ** 30 + 3]:
                self.assertEqual(read(pile, Plain(counts), 20), take_row(pile, counts, 20))

    def test_each_sign_is_seen_as_it_is_taken(self):
        for model in models():
            pile = 10 ** 60 + 12345
            fresh = model.fresh()
            row = []
            left = pile
            for place in range(12):
                sign, left = take(left, fresh.counts())
                fresh.see(sign)
                row.append(sign)
            self.assertEqual(read(pile, model, 12), (row, left))

    def test_no_signs(self):
        for model in models():
            for pile in [0, 1] + LARGE_PILES:
                self.assertEqual(read(pile, model, 0), ([], pile))

    def test_gives_a_tuple_with_a_list(self):
        told = read(34, Learner(2), 2)
        self.assertIs(type(told), tuple)
        self.assertIs(type(told[0]), list)

    def test_low_piles(self):
        for model in [Plain([2, 0, 5]), Learner(3), Follower(3, 2)]:
            for pile in LOW_PILES:
                for many in [0, 1, 200]:
                    with self.subTest(model=model, pile=pile, many=many):
                        self.assertRaises(NoPile, read, pile, model, many)


class TestThereAndBack(unittest.TestCase):
    def test_pressed_and_read(self):
        for model in models():
            for length in [0, 1, 2, 199, 200]:
                row = row_of(model.many, length, 7)
                for pile in [0, 1, 77, 10 ** 899]:
                    with self.subTest(model=model, length=length, pile=pile):
                        self.assertEqual(read(press(pile, model, row), model, length), (row, pile))

    def test_read_and_pressed(self):
        for model in models():
            for many in [0, 1, 200]:
                for pile in [0, 1, 77] + LARGE_PILES:
                    with self.subTest(model=model, many=many, pile=pile):
                        row, left = read(pile, model, many)
                        self.assertEqual(len(row), many)
                        self.assertEqual(press(left, model, row), pile)

    def test_counts_that_are_halved_on_the_way(self):
        for model in [Learner(2, 9), Follower(2, 9)]:
            row = [0] * 130 + [1] + [0] * 69
            self.assertEqual(press(3, model, row), pressed(3, model, row))
            self.assertEqual(read(press(3, model, row), model, 200), (row, 3))

    def test_somewhat_more_than_200_signs_are_not_refused(self):
        for model in [Plain([2, 3, 5]), Learner(3), Follower(3)]:
            row = row_of(3, 230)
            self.assertEqual(read(press(5, model, row), model, 230), (row, 5))

    def test_somewhat_more_than_900_figures_are_not_refused(self):
        for model in [Plain([2, 3, 5]), Learner(3), Follower(3)]:
            row = row_of(3, 10)
            pile = 10 ** 950
            self.assertEqual(read(press(pile, model, row), model, 10), (row, pile))


class TestHandedIn(unittest.TestCase):
    def test_the_model_sees_nothing(self):
        for model, other in zip(models(), models()):
            row = row_of(model.many, 20, 3)
            press(5, model, row)
            read(10 ** 50, model, 20)
            for sign in row_of(model.many, 20, 5):
                self.assertEqual(model.counts(), other.counts())
                model.see(sign)
                other.see(sign)
            self.assertEqual(model.counts(), other.counts())

    def test_the_model_sees_nothing_where_it_is_refused(self):
        for model, other in zip(models(), models()):
            row = row_of(model.many, 20, 3)
            self.assertRaises(NoSign, press, 5, model, row + [model.many])
            self.assertRaises(NoPile, press, -5, model, row)
            self.assertRaises(NoPile, read, -5, model, 20)
            for sign in row_of(model.many, 20, 5):
                self.assertEqual(model.counts(), other.counts())
                model.see(sign)
                other.see(sign)

    def test_what_the_model_saw_does_not_count(self):
        for model in models():
            row = row_of(model.many, 20, 3)
            self.assertEqual(press(5, model, row), press(5, model.fresh(), row))
            self.assertEqual(read(10 ** 50, model, 20), read(10 ** 50, model.fresh(), 20))

    def test_the_row_stays_as_it_was(self):
        for model in [Plain([2, 3, 5]), Learner(3), Follower(3)]:
            row = [0, 2, 1, 1, 0]
            press(5, model, row)
            self.assertEqual(row, [0, 2, 1, 1, 0])
            row[2] = 3
            self.assertRaises(NoSign, press, 5, model, row)
            self.assertEqual(row, [0, 2, 3, 1, 0])

    def test_each_list_told_is_one_of_its_own(self):
        for model in [Plain([2, 3, 5]), Learner(3), Follower(3)]:
            for many in [0, 4]:
                one = read(12345, model, many)[0]
                other = read(12345, model, many)[0]
                self.assertIsNot(one, other)
                one.append(9)
                self.assertEqual(read(12345, model, many)[0], other)


if __name__ == "__main__":
    unittest.main()

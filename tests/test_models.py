"""Point 5, with what points 1 and 11 say of it."""

import unittest

from numberpile.errors import NoShares, NoSign
from numberpile.models import Follower, Learner, Model, Plain
from tests.cases import GOOD_COUNTS, WRONG_COUNTS, row_of

HUGE = 10 ** 899
WRONG_MANY = [-HUGE, -100, -1, 0, 101, 102, HUGE]
WRONG_STEPS = [-HUGE, -9, -1, 0, 10, 11, HUGE]


def learnt(many, step, seen):
    """What a Learner tells behind the signs seen, worked out anew from all of them."""
    counts = {sign: 1 for sign in range(many)}
    for sign in seen:
        counts[sign] += step
        if max(counts.values()) >= 1000:
            counts = {one: -(-count // 2) for one, count in counts.items()}
    return [counts[sign] for sign in range(many)]


def followed(many, step, seen):
    """What a Follower tells: learnt from the signs that came behind the like of the last."""
    if not seen:
        return [1] * many
    last = seen[-1]
    return learnt(many, step, [sign for ahead, sign in zip(seen, seen[1:]) if ahead == last])


def shown(model, seen):
    for sign in seen:
        model.see(sign)
    return model


class TestKinds(unittest.TestCase):
    def test_each_is_a_model(self):
        for kind in [Plain, Learner, Follower]:
            self.assertTrue(issubclass(kind, Model))

    def test_many(self):
        self.assertEqual(Plain([2, 0, 5]).many, 3)
        self.assertEqual(Plain([1]).many, 1)
        self.assertEqual(Plain([1] * 100).many, 100)
        for kind in [Learner, Follower]:
            for many in [1, 2, 7, 100]:
                self.assertEqual(kind(many).many, many)
                self.assertEqual(kind(many, 9).many, many)
                self.assertEqual(kind(many, 9).fresh().many, many)
        self.assertEqual(Plain([2, 0, 5]).fresh().many, 3)

    def test_many_stays_behind_signs_seen(self):
        for model in [Plain([2, 0, 5]), Learner(3), Follower(3)]:
            shown(model, [2, 1, 0, 2])
            self.assertEqual(model.many, 3)

    def test_wrong_many(self):
        for kind in [Learner, Follower]:
            for many in WRONG_MANY:
                with self.subTest(kind=kind, many=many):
                    self.assertRaises(NoShares, kind, many)
                    self.assertRaises(NoShares, kind, many, 9)
                    self.assertRaises(NoShares, kind, many, 0)

    def test_wrong_step(self):
        for kind in [Learner, Follower]:
            for step in WRONG_STEPS:
                for many in [1, 2, 100]:
                    with self.subTest(kind=kind, step=step, many=many):
                        self.assertRaises(NoShares, kind, many, step)

    def test_each_step_from_1_to_9(self):
        for kind in [Learner, Follower]:
            for step in range(1, 10):
                self.assertEqual(kind(2, step).counts(), [1, 1])

    def test_step_by_its_name(self):
        self.assertEqual(shown(Learner(many=2, step=4), [1]).counts(), [1, 5])
        self.assertEqual(shown(Follower(many=2, step=4), [1, 1]).counts(), [1, 5])

    def test_wrong_counts(self):
        for counts in WRONG_COUNTS:
            with self.subTest(counts=counts[:4]):
                self.assertRaises(NoShares, Plain, counts)


class TestPlain(unittest.TestCase):
    def test_tells_the_same_always(self):
        for counts in GOOD_COUNTS:
            model = Plain(counts)
            self.assertEqual(model.counts(), counts)
            for sign in row_of(len(counts), 30):
                model.see(sign)
                self.assertEqual(model.counts(), counts)

    def test_the_counts_handed_in_stay_and_may_be_changed(self):
        counts = [2, 0, 5]
        model = Plain(counts)
        shown(model, [0, 1, 2])
        self.assertEqual(counts, [2, 0, 5])
        counts[0] = 7
        counts.append(1)
        self.assertEqual(model.counts(), [2, 0, 5])
        self.assertEqual(model.fresh().counts(), [2, 0, 5])
        self.assertEqual(model.many, 3)
        self.assertRaises(NoSign, model.see, 3)

    def test_refused_counts_stay(self):
        counts = [2, 1000, -5]
        self.assertRaises(NoShares, Plain, counts)
        self.assertEqual(counts, [2, 1000, -5])


class TestLearner(unittest.TestCase):
    def test_at_first(self):
        for many in [1, 2, 3, 100]:
            for step in [1, 5, 9]:
                self.assertEqual(Learner(many, step).counts(), [1] * many)

    def test_written_out(self):
        self.assertEqual(shown(Learner(3), [2]).counts(), [1, 1, 2])
        self.assertEqual(shown(Learner(3), [2, 0, 2]).counts(), [2, 1, 3])
        self.assertEqual(shown(Learner(3, 4), [2, 0, 2]).counts(), [5, 1, 9])
        self.assertEqual(shown(Learner(1, 9), [0, 0]).counts(), [19])

    def test_the_step_left_out_is_1(self):
        self.assertEqual(shown(Learner(2), [1, 1, 0]).counts(), [2, 3])
        self.assertEqual(shown(Learner(2).fresh(), [1, 1, 0]).counts(), [2, 3])

    def test_a_count_of_999_stays(self):
        self.assertEqual(shown(Learner(2), [0] * 998).counts(), [999, 1])
        self.assertEqual(shown(Learner(2, 2), [1] * 499).counts(), [1, 999])

    def test_above_999_all_are_halved_and_rounded_up(self):
        model = shown(Learner(4), [1] + [2, 2] + [0] * 998)
        self.assertEqual(model.counts(), [999, 2, 3, 1])
        model.see(0)
        self.assertEqual(model.counts(), [500, 1, 2, 1])
        model.see(0)
        self.assertEqual(model.counts(), [501, 1, 2, 1])

    def test_above_999_by_more_than_1(self):
        model = shown(Learner(2, 9), [1] * 110)
        self.assertEqual(model.counts(), [1, 991])
        model.see(1)
        self.assertEqual(model.counts(), [1, 500])
        model = shown(Learner(3, 4), [2] + [1] * 249)
        self.assertEqual(model.counts(), [1, 997, 5])
        model.see(1)
        self.assertEqual(model.counts(), [1, 501, 3])
        model = shown(Learner(1, 2), [0] * 499)
        self.assertEqual(model.counts(), [999])
        model.see(0)
        self.assertEqual(model.counts(), [501])

    def test_another_sign_at_999_does_not_halve(self):
        model = shown(Learner(2), [0] * 998 + [1])
        self.assertEqual(model.counts(), [999, 2])

    def test_long_rows(self):
        for many, step, seen in [
            (1, 1, [0] * 2500),
            (1, 9, [0] * 700),
            (2, 7, row_of(2, 900)),
            (3, 9, row_of(3, 900)),
            (100, 9, row_of(100, 600)),
        ]:
            model = Learner(many, step)
            for place, sign in enumerate(seen):
                model.see(sign)
                if place % 41 == 0:
                    self.assertEqual(model.counts(), learnt(many, step, seen[:place + 1]))
            self.assertEqual(model.counts(), learnt(many, step, seen))

    def test_two_learners_do_not_touch(self):
        one = Learner(3)
        other = Learner(3)
        one.see(1)
        self.assertEqual(other.counts(), [1, 1, 1])


class TestFollower(unittest.TestCase):
    def test_ahead_of_the_first_sign(self):
        for many in [1, 2, 3, 100]:
            for step in [1, 5, 9]:
                self.assertEqual(Follower(many, step).counts(), [1] * many)

    def test_the_first_sign_is_the_beginnings(self):
        for sign in range(3):
            self.assertEqual(shown(Follower(3, 5), [sign]).counts(), [1, 1, 1])

    def test_written_out(self):
        model = Follower(2, 3)
        told = []
        for sign in [0, 0, 1, 0, 1, 1, 0, 0]:
            model.see(sign)
            told.append(model.counts())
        self.assertEqual(told, [
            [1, 1],
            [4, 1],
            [1, 1],
            [4, 4],
            [4, 1],
            [4, 4],
            [4, 7],
            [7, 7],
        ])

    def test_the_step_left_out_is_1(self):
        self.assertEqual(shown(Follower(2), [1, 1, 1]).counts(), [1, 3])
        self.assertEqual(shown(Follower(2).fresh(), [1, 1, 1]).counts(), [1, 3])

    def test_each_sign_has_its_own_learner(self):
        seen = [0, 1, 0, 2, 0, 1, 1, 2, 2, 2, 0]
        self.assertEqual(shown(Follower(3), seen).counts(), [1, 3, 2])
        self.assertEqual(shown(Follower(3), seen + [1]).counts(), [2, 2, 2])
        self.assertEqual(shown(Follower(3), seen + [2]).counts(), [3, 1, 3])

    def test_halved_alone(self):
        model = shown(Follower(2), [1, 0, 1, 0] + [0] * 997)
        self.assertEqual(model.counts(), [998, 2])
        model.see(0)
        self.assertEqual(model.counts(), [999, 2])
        model.see(0)
        self.assertEqual(model.counts(), [500, 1])
        model.see(1)
        self.assertEqual(model.counts(), [3, 1])
        model.see(0)
        self.assertEqual(model.counts(), [500, 2])

    def test_long_rows(self):
        for many, step, seen in [
            (1, 9, [0] * 400),
            (2, 9, row_of(2, 900)),
            (3, 1, row_of(3, 300)),
            (100, 2, row_of(100, 300)),
        ]:
            model = Follower(many, step)
            for place, sign in enumerate(seen):
                model.see(sign)
                if place % 7 == 0:
                    self.assertEqual(model.counts(), followed(many, step, seen[:place + 1]))
            self.assertEqual(model.counts(), followed(many, step, seen))


def models():
    return [
        Plain([2, 0, 5]),
        Learner(3),
        Learner(3, 9),
        Follower(3),
        Follower(3, 9),
    ]


SEEN = [0, 0, 2, 1, 0, 0, 2, 2, 1, 1, 0]


class TestFresh(unittest.TestCase):
    def test_same_kind(self):
        for model in models():
            self.assertIs(type(model.fresh()), type(model))
            self.assertIsNot(model.fresh(), model)
            self.assertIsNot(model.fresh(), model.fresh())

    def test_saw_nothing(self):
        for model in models():
            first = model.counts()
            shown(model, SEEN)
            self.assertEqual(model.fresh().counts(), first)
            self.assertEqual(model.fresh().fresh().counts(), first)

    def test_goes_on_like_a_new_one(self):
        for model, other in zip(models(), models()):
            fresh = shown(model, SEEN).fresh()
            for sign in SEEN:
                self.assertEqual(fresh.counts(), other.counts())
                fresh.see(sign)
                other.see(sign)
            self.assertEqual(fresh.counts(), other.counts())

    def test_leaves_the_one_it_came_from(self):
        for ahead in range(len(SEEN)):
            for model, other in zip(models(), models()):
                shown(model, SEEN[:ahead])
                shown(other, SEEN[:ahead])
                shown(model.fresh(), SEEN)
                for sign in SEEN[ahead:]:
                    self.assertEqual(model.counts(), other.counts())
                    model.see(sign)
                    other.see(sign)

    def test_does_not_hang_on_the_one_it_came_from(self):
        for model, other in zip(models(), models()):
            fresh = model.fresh()
            shown(model, SEEN)
            for sign in SEEN:
                self.assertEqual(fresh.counts(), other.counts())
                fresh.see(sign)
                other.see(sign)


class TestSee(unittest.TestCase):
    def test_gives_back_none(self):
        for model in models():
            for sign in SEEN:
                self.assertIsNone(model.see(sign))

    def test_a_sign_whose_count_is_0(self):
        model = Plain([0, 3, 0])
        self.assertIsNone(model.see(0))
        self.assertIsNone(model.see(2))
        self.assertEqual(model.counts(), [0, 3, 0])

    def test_gives_back_none_where_counts_are_halved(self):
        self.assertIsNone(shown(Learner(1), [0] * 998).see(0))

    def test_a_sign_that_is_not_there(self):
        for model in models():
            for sign in [-HUGE, -3, -2, -1, 3, 4, HUGE]:
                with self.subTest(model=model, sign=sign):
                    self.assertRaises(NoSign, model.see, sign)
        for model in [Plain([4]), Learner(1), Follower(1)]:
            self.assertRaises(NoSign, model.see, -1)
            self.assertRaises(NoSign, model.see, 1)
        for model in [Plain([4] * 100), Learner(100), Follower(100)]:
            self.assertIsNone(model.see(99))
            self.assertRaises(NoSign, model.see, 100)

    def test_a_refused_sign_turns_nothing(self):
        for model, other in zip(models(), models()):
            for sign in SEEN:
                for wrong in [-3, -1, 3, HUGE]:
                    self.assertRaises(NoSign, model.see, wrong)
                self.assertEqual(model.counts(), other.counts())
                model.see(sign)
                other.see(sign)
            self.assertEqual(model.counts(), other.counts())

    def test_a_refused_sign_does_not_halve(self):
        model = shown(Learner(2), [0] * 998)
        self.assertRaises(NoSign, model.see, -2)
        self.assertRaises(NoSign, model.see, 2)
        self.assertEqual(model.counts(), [999, 1])


class TestToldLists(unittest.TestCase):
    def test_a_list_is_told(self):
        for model in models():
            self.assertIs(type(model.counts()), list)
            model.see(1)
            self.assertIs(type(model.counts()), list)

    def test_a_list_told_may_be_changed(self):
        for model, other in zip(models(), models()):
            for sign in SEEN:
                told = model.counts()
                self.assertIsNot(told, model.counts())
                told[0] = 77
                told.append(5)
                self.assertEqual(model.counts(), other.counts())
                self.assertEqual(model.fresh().counts(), other.fresh().counts())
                model.see(sign)
                other.see(sign)

    def test_a_list_told_stays_where_the_model_goes_on(self):
        for model in [Learner(2), Follower(2)]:
            shown(model, [1])
            told = model.counts()
            ahead = list(told)
            shown(model, [1, 1, 0, 1] + [1] * 1000)
            self.assertEqual(told, ahead)


if __name__ == "__main__":
    unittest.main()

"""Point 11: the classes of the refusals, and the one that goes first where two are due."""

import unittest

from numberpile import errors
from numberpile.hidden import lay_hidden, take_hidden
from numberpile.leaves import packed, unpacked
from numberpile.models import Follower, Learner, Plain, press, read
from numberpile.piles import lay, lay_row, take, take_row
from numberpile.shares import first_of, sign_of, whole
from numberpile.slots import Slots
from numberpile.streams import Stream

NAMES = ["NoShares", "NoPile", "NoSign", "NoSlot", "NoMore", "NoText", "NotLeaf"]


class TestErrors(unittest.TestCase):
    def test_pile_error_is_a_value_error(self):
        self.assertTrue(issubclass(errors.PileError, ValueError))

    def test_each_refusal_stands_straight_under_pile_error(self):
        for name in NAMES:
            with self.subTest(name=name):
                self.assertEqual(getattr(errors, name).__bases__, (errors.PileError,))

    def test_each_refusal_is_of_its_own(self):
        for name in NAMES:
            for other in NAMES:
                with self.subTest(name=name, other=other):
                    one = getattr(errors, name)
                    self.assertEqual(issubclass(one, getattr(errors, other)), name == other)

    def test_each_is_raised_and_taken(self):
        for name in NAMES:
            with self.subTest(name=name):
                with self.assertRaises(errors.PileError):
                    raise getattr(errors, name)("words")
                with self.assertRaises(ValueError):
                    raise getattr(errors, name)("words")


# Each call with each refusal that it has; where a later one can be due too, it is.
REFUSALS = [
    ("NoShares", whole, ([],)),
    ("NoShares", first_of, ([0], 5)),
    ("NoSign", first_of, ([1], 5)),
    ("NoShares", sign_of, ([0], 5)),
    ("NoSlot", sign_of, ([1], 5)),
    ("NoShares", lay, (-1, [0], 5)),
    ("NoPile", lay, (-1, [1], 5)),
    ("NoSign", lay, (0, [1], 5)),
    ("NoShares", take, (-1, [0])),
    ("NoPile", take, (-1, [1])),
    ("NoShares", lay_row, (-1, [0], [5])),
    ("NoPile", lay_row, (-1, [1], [0, 5])),
    ("NoSign", lay_row, (0, [1], [0, 5, 0])),
    ("NoShares", take_row, (-1, [0], 3)),
    ("NoPile", take_row, (-1, [1], 3)),
    ("NoShares", Plain, ([1000],)),
    ("NoShares", Learner, (101, 1)),
    ("NoShares", Follower, (1, 10)),
    ("NoSign", Plain([1]).see, (5,)),
    ("NoSign", Learner(1).see, (5,)),
    ("NoSign", Follower(1).see, (5,)),
    ("NoPile", press, (-1, Learner(1), [5])),
    ("NoSign", press, (0, Learner(1), [0, 5])),
    ("NoPile", read, (-1, Learner(1), 3)),
    ("NoShares", Stream, ([0], 10, 4)),
    ("NoShares", Stream, ([1], 1, 4)),
    ("NoShares", Stream, ([1], 10, 101)),
    ("NoSign", Stream([1, 1], 10).lay_sign, (2,)),
    ("NoMore", Stream([1, 1], 10).take_sign, ()),
    ("NoShares", lay_hidden, (-1, [1], [[1]], [[0]], 5)),
    ("NoPile", lay_hidden, (-1, [1], [[1]], [[1]], 5)),
    ("NoSign", lay_hidden, (0, [1], [[1]], [[1]], 5)),
    ("NoShares", take_hidden, (-1, [1], [[1]], [])),
    ("NoPile", take_hidden, (-1, [1], [[1]], [[1]])),
    ("NoShares", Slots, ([0, 0],)),
    ("NoSign", Slots([1, 0]).raised, (1, 9)),
    ("NoSlot", Slots([1, 0]).raised, (0, 9)),
    ("NoPile", Slots([1, 1]).lowered, (4,)),
    ("NoPile", Slots([1, 1]).laid, (1, [5])),
    ("NoSign", Slots([1, 1]).laid, (2, [0, 5, 0])),
    ("NoPile", Slots([1, 1]).taken, (4, [], 1)),
    ("NoMore", Slots([1, 1]).taken, (3, [], 1)),
    ("NoText", packed, ("a" * 150 + "\n",)),
    ("NotLeaf", unpacked, ("0x1\n",)),
]


class TestRefusals(unittest.TestCase):
    def test_each_call_refuses_with_the_first_that_is_due(self):
        for name, call, handed in REFUSALS:
            with self.subTest(name=name, call=call, handed=handed):
                with self.assertRaises(errors.PileError) as caught:
                    call(*handed)
                self.assertIs(type(caught.exception), getattr(errors, name))


if __name__ == "__main__":
    unittest.main()

"""Point 10, with what points 1 and 11 say of it."""

import itertools
import unittest

from numberpile.errors import NoText, NotLeaf
from numberpile.leaves import packed, unpacked
from numberpile.piles import lay_row
from tests.cases import HUGE, row_of

SIGNS = [chr(code) for code in range(32, 127) if chr(code) != "%"]
LETTERS = "abcdefghijklmnopqrstuvwxyz"


def text_for(signs, length, seed=1):
    return "".join(signs[k] for k in row_of(len(signs), length, seed))


TEXTS = [
    "",
    " ",
    "a",
    "~",
    "z~ a",
    "aaaa",
    " " * 150,
    "~" * 149,
    "hello, world; x",
    "0x1,1x1;b",
    "\"quoted\" and \\ 'too'",
    "a" * 149 + "b",
    "b" + "a" * 149,
    "ab" * 75,
    "".join(SIGNS),
    "".join(reversed(SIGNS)),
    "".join(SIGNS) + "".join(SIGNS[:56]),
    text_for(SIGNS, 150),
    text_for(SIGNS, 150, 9),
    text_for(SIGNS[10:20], 150, 5),
    text_for("ab", 150, 7),
]


def in_letters(number):
    letters = ""
    while number > 0 or letters == "":
        number, worth = divmod(number, 26)
        letters = LETTERS[worth] + letters
    return letters


def leaf_for(text):
    """The leaf of a text that has signs, by the words of the point."""
    kinds = sorted(set(text))
    counts = [text.count(sign) for sign in kinds]
    head = [str(SIGNS.index(sign)) + "x" + str(count) for sign, count in zip(kinds, counts)]
    pile = lay_row(0, counts, [kinds.index(sign) for sign in text])
    return ",".join(head) + ";" + in_letters(pile)


class TestPacked(unittest.TestCase):
    def test_the_text_without_signs(self):
        self.assertEqual(packed(""), ";a")

    def test_written_out(self):
        self.assertEqual(packed(" "), "0x1;a")
        self.assertEqual(packed("ab"), "64x1,65x1;c")
        self.assertEqual(packed("ba"), "64x1,65x1;b")
        self.assertEqual(packed("aab"), "64x2,65x1;e")
        self.assertEqual(packed("aba"), "64x2,65x1;d")
        self.assertEqual(packed("baa"), "64x2,65x1;c")
        self.assertEqual(packed("abcd"), "64x1,65x1,66x1,67x1;iu")
        self.assertEqual(packed("~ ~"), "0x1,93x2;f")

    def test_the_place_of_each_sign(self):
        for place, sign in enumerate(SIGNS):
            self.assertEqual(packed(sign), f"{place}x1;a")
        self.assertEqual(packed("$"), "4x1;a")
        self.assertEqual(packed("&"), "5x1;a")
        self.assertEqual(packed("~"), "93x1;a")

    def test_one_kind_many_times(self):
        for sign in [" ", "$", "&", "7", "x", ",", ";", "~"]:
            for length in [1, 2, 9, 10, 99, 100, 149, 150]:
                self.assertEqual(packed(sign * length), f"{SIGNS.index(sign)}x{length};a")

    def test_by_the_point(self):
        for text in TEXTS[1:]:
            with self.subTest(text=text):
                self.assertEqual(packed(text), leaf_for(text))

    def test_the_letters_of_small_piles(self):
        # Rows of two kinds give piles below and above 26, and those whose letters hold an "a" behind others.
        seen = []
        for length in range(1, 8):
            for row in itertools.product("ab", repeat=length):
                text = "".join(row)
                self.assertEqual(packed(text), leaf_for(text))
                seen.append(packed(text).partition(";")[2])
        self.assertTrue(any(len(letters) > 1 and "a" in letters for letters in seen))

    def test_gives_a_text(self):
        self.assertIs(type(packed("")), str)
        self.assertIs(type(packed("ab")), str)

    def test_150_signs_are_not_refused_and_151_are(self):
        for sign in SIGNS:
            self.assertEqual(packed(sign * 150), f"{SIGNS.index(sign)}x150;a")
            self.assertRaises(NoText, packed, sign * 151)
        self.assertRaises(NoText, packed, text_for(SIGNS, 151))
        self.assertRaises(NoText, packed, text_for(SIGNS, 400))

    def test_line_ends_and_tabs(self):
        for sign in ["\n", "\t"]:
            for text in [sign, sign + "ab", "a" + sign + "b", "ab" + sign, sign * 150, "a" * 149 + sign]:
                with self.subTest(text=text):
                    self.assertRaises(NoText, packed, text)
            self.assertRaises(NoText, packed, "a" * 150 + sign)


class TestUnpacked(unittest.TestCase):
    def test_the_text_without_signs(self):
        self.assertEqual(unpacked(";a"), "")

    def test_written_out(self):
        self.assertEqual(unpacked("0x1;a"), " ")
        self.assertEqual(unpacked("64x1,65x1;c"), "ab")
        self.assertEqual(unpacked("64x1,65x1;b"), "ba")
        self.assertEqual(unpacked("64x2,65x1;d"), "aba")
        self.assertEqual(unpacked("0x1,93x2;f"), "~ ~")
        self.assertEqual(unpacked("93x150;a"), "~" * 150)

    def test_packed_and_unpacked(self):
        for text in TEXTS + SIGNS:
            with self.subTest(text=text):
                self.assertEqual(unpacked(packed(text)), text)

    def test_texts_of_each_length(self):
        for length in range(151):
            for signs in [SIGNS, " ~", "xyz"]:
                text = text_for(signs, length, length)
                self.assertEqual(unpacked(packed(text)), text)

    def test_all_short_texts(self):
        leaves = {}
        for length in range(6):
            for row in itertools.product(" x~", repeat=length):
                text = "".join(row)
                leaf = packed(text)
                self.assertNotIn(leaf, leaves)
                leaves[leaf] = text
                self.assertEqual(unpacked(leaf), text)


class TestNotLeaf(unittest.TestCase):
    def refused(self, leaves):
        for leaf in leaves:
            with self.subTest(leaf=leaf):
                self.assertRaises(NotLeaf, unpacked, leaf)

    def test_places_that_do_not_rise(self):
        self.refused(["65x1,64x1;c", "65x1,64x1;b", "64x1,64x1;a", "64x1,64x1;b", "64x1,64x1;c", "64x2,64x2;a"])
        self.refused(["1x1,2x1,2x1;a", "0x1,0x1;b", "0x1,0x1;c", "3x1,2x1,1x1;a", "1x1,3x1,2x1;a"])
        self.refused([",".join(["0x1"] * many) + ";a" for many in [2, 94, 100, 101, 150, 151, 370]])

    def test_places_that_are_not_there(self):
        self.refused(["94x1;a", "95x1;a", "99x1;a", "100x1;a", "126x1;a", "999x1;a", "1000x1;a", "-1x1;a"])
        self.refused(["0x1,94x1;b", "0x1,94x1;c", "9" * 1400 + "x1;a", "1" + "0" * 900 + "x1;a"])

    def test_counts_of_0(self):
        self.refused(["0x0;a", "64x0;a", "64x00;a", "0x0,1x1;a", "0x1,1x0;a", "0x1,1x0,2x1;b", "0x0,1x0;a"])

    def test_leading_noughts(self):
        self.refused(["0x01;a", "0x001;a", "00x1;a", "064x1;a", "000x1;a", "64x1,065x1;c", "64x1,65x01;c", "64x010;a"])
        self.refused(["0x" + "0" * 1400 + "1;a", "0" * 1400 + "x1;a"])

    def test_numbers_with_a_sign_of_their_own(self):
        self.refused(["64x+1;a", "64x-1;a", "+64x1;a", "-64x1;a", "-0x1;a", "+0x1;a", "0x+1;a", "64x1,+65x1;c"])

    def test_numbers_in_another_form(self):
        self.refused(["64x1_0;a", "6_4x1;a", "64x 1;a", "64x1 ;a", " 64x1;a", "64 x1;a", "64x1.0;a", "64x1e1;a"])
        self.refused(["64X1;a", "0x0x1;a", "64xx1;a", "0x1x;a", "x0x1;a", "0xa;a", "64*1;a", "64x1 ,65x1;c"])

    def test_counts_above_150_together(self):
        self.refused(["0x151;a", "0x152;a", "0x999;a", "0x1000;a", "0x100,1x51;a", "0x75,1x76;a", "0x150,1x1;a"])
        self.refused([f"0x{HUGE};a", "0x" + "9" * 1400 + ";a", "0x1000000000;a"])
        self.refused([",".join(f"{place}x2" for place in range(94)) + ";a"])

    def test_letters_that_begin_with_a_needless_a(self):
        self.refused([";aa", "0x1;aa", "64x1,65x1;ac", "64x1,65x1;ab", "64x1,65x1;aac", "0x1;aaaaaaaa"])
        self.refused(["64x1,65x1,66x1,67x1;aiu", ";" + "a" * 1400])

    def test_other_letters(self):
        self.refused([";A", ";b", ";z", ";0", ";-", "64x1,65x1;C", "64x1,65x1;2", "64x1,65x1;-c", "64x1,65x1;+c"])
        self.refused(["64x1,65x1;c ", "64x1,65x1; c", "64x1,65x1;c,", "64x1,65x1;{", "64x1,65x1;`", "64x1,65x1;c;"])

    def test_piles_that_are_no_row_of_these_counts(self):
        for head, texts in [("64x1", ["a"]), ("64x3", ["aaa"]), ("64x1,65x1", ["ab", "ba"]),
                            ("64x2,65x1", ["aab", "aba", "baa"]), ("", [""]),
                            ("64x1,65x1,66x1", ["abc", "acb", "bac", "bca", "cab", "cba"])]:
            good = {packed(text): text for text in texts}
            for pile in range(1500):
                leaf = head + ";" + in_letters(pile)
                with self.subTest(leaf=leaf):
                    if leaf in good:
                        self.assertEqual(unpacked(leaf), good.pop(leaf))
                    else:
                        self.assertRaises(NotLeaf, unpacked, leaf)
            self.assertEqual(good, {})

    def test_a_row_of_these_counts_on_another_pile(self):
        for text in ["ab", "hello", text_for(SIGNS, 150)]:
            kinds = sorted(set(text))
            counts = [text.count(sign) for sign in kinds]
            head = packed(text).partition(";")[0]
            for ahead in [1, 2, 25, 26, 10 ** 30, HUGE]:
                pile = lay_row(ahead, counts, [kinds.index(sign) for sign in text])
                self.refused([head + ";" + in_letters(pile)])

    def test_a_row_of_other_counts(self):
        for other in ["aa", "bb"]:
            pile = lay_row(0, [1, 1], [ord(sign) - ord("a") for sign in other])
            self.refused(["64x1,65x1;" + in_letters(pile)])
        for other in ["aaa", "abb", "bbb", "bab"]:
            pile = lay_row(0, [2, 1], [ord(sign) - ord("a") for sign in other])
            self.refused(["64x2,65x1;" + in_letters(pile)])

    def test_long_piles(self):
        self.refused([";" + "z" * 1400, "0x1;" + "z" * 1400, "64x1,65x1;" + "q" * 1480, "0x75,1x75;" + "m" * 1400])

    def test_a_part_left_out(self):
        self.refused(["", ";", "a", "c", "64x1,65x1", "64x1,65x1;", "64x1,65x1c", ",65x1;c", "64x1,;c", ",;a", ",;"])
        self.refused(["64,65x1;c", "64x,65x1;c", "x1,65x1;c", "x;a", "64;a", "64x;a", "x1;a", "641;a", "64x165x1;c"])
        self.refused(["0x1", "0", "x", ","])

    def test_a_part_twice(self):
        self.refused([";;a", ";a;", ";a;a", "64x1,,65x1;c", "64x1,65x1,;c", ",64x1,65x1;c", "64x1,65x1;;c"])
        self.refused(["64x1,65x1;c;c", "64x1,65x1;64x1,65x1;c", "64x1;64x1;a", "0x1;a0x1;a", "0x1,0x1;a", "0x1x1;a"])

    def test_line_ends_and_tabs(self):
        for sign in ["\n", "\t", " "]:
            for leaf in [";a", "0x1;a", "64x1,65x1;c", "64x10;a"]:
                for place in range(len(leaf) + 1):
                    self.refused([leaf[:place] + sign + leaf[place:]])
            self.refused([sign, sign * 2, sign * 1500])

    def test_all_short_leaves(self):
        # Whatever is made of these signs, the leaves among it are those of the texts of one kind.
        good = {";a": ""}
        for place, length in itertools.product([0, 1, 10, 11], [1, 10, 11, 100, 101, 110, 111]):
            good[f"{place}x{length};a"] = SIGNS[place] * length
        for length in range(7):
            for row in itertools.product("01x,;ab", repeat=length):
                leaf = "".join(row)
                if leaf in good:
                    self.assertEqual(unpacked(leaf), good[leaf])
                else:
                    self.assertRaises(NotLeaf, unpacked, leaf)

    def test_leaves_with_one_sign_changed(self):
        for text in ["ab", "hello", "x y z"]:
            leaf = packed(text)
            edits = [leaf[:place] + leaf[place + 1:] for place in range(len(leaf))]
            for place, sign in itertools.product(range(len(leaf) + 1), SIGNS + ["\n", "\t"]):
                edits.append(leaf[:place] + sign + leaf[place:])
                edits.append(leaf[:place] + sign + leaf[place + 1:])
            for edit in edits:
                try:
                    told = unpacked(edit)
                except NotLeaf:
                    continue
                with self.subTest(leaf=edit):
                    self.assertEqual(packed(told), edit)

    def test_used_on_behind_a_refusal(self):
        self.assertRaises(NotLeaf, unpacked, "64x1,65x1;d")
        self.assertRaises(NoText, packed, "a\n")
        self.assertEqual(unpacked("64x1,65x1;c"), "ab")
        self.assertEqual(packed("ab"), "64x1,65x1;c")


if __name__ == "__main__":
    unittest.main()

"""Leaves: texts that tell texts, by how often each sign stands there and by a pile in letters."""

from numberpile.errors import NoText, NotLeaf
from numberpile.piles import lay_row, take_row

MOST_TEXT = 150
MOST_FIGURES = 3
SIGNS = " !\"#$&'()*+,-./0123456789:;<=>?@ABCDEFGHIJKLMNOPQRSTUVWXYZ[\\]^_`abcdefghijklmnopqrstuvwxyz{|}~"
LETTERS = "abcdefghijklmnopqrstuvwxyz"


def check_text(text):
    if len(text) > MOST_TEXT:
        raise NoText("a text has at most 150 signs")
    for sign in text:
        if sign not in SIGNS:
            raise NoText("there is no such sign in a text")


def entry(sign, count):
    place = SIGNS.index(sign)
    return f"{place}x{count}"


def letters_of(pile):
    letters = LETTERS[pile % len(LETTERS)]
    while pile >= len(LETTERS):
        pile //= len(LETTERS)
        letters = LETTERS[pile % len(LETTERS)] + letters
    return letters


def packed(text):
    check_text(text)
    # Counts are of one sign at least, so the text without signs has none to be laid by.
    if text == "":
        return ";a"
    kinds = [sign for sign in SIGNS if sign in text]
    counts = [text.count(sign) for sign in kinds]
    pile = lay_row(0, counts, [kinds.index(sign) for sign in text])
    head = ",".join([entry(sign, count) for sign, count in zip(kinds, counts)])
    return head + ";" + letters_of(pile)


def number_of(figures):
    # No place and no count needs more figures, and a long row of them is never reckoned.
    if len(figures) > MOST_FIGURES or not figures.isdigit():
        raise NotLeaf("a place or a count is told by figures")
    return int(figures)


def entry_of(part):
    halves = part.partition("x")
    return (number_of(halves[0]), number_of(halves[2]))


def check_entries(entries):
    last = -1
    for place, count in entries:
        if not last < place < len(SIGNS):
            raise NotLeaf("places rise and are there")
        if count == 0:
            raise NotLeaf("each sign of a leaf stands in its text")
        last = place
    if sum([count for place, count in entries]) > MOST_TEXT:
        raise NotLeaf("a text has at most 150 signs")


def entries_of(head):
    if head == "":
        return []
    entries = [entry_of(part) for part in head.split(",")]
    check_entries(entries)
    return entries


def pile_of(letters):
    pile = 0
    for letter in letters:
        if letter not in LETTERS:
            raise NotLeaf("a pile is told by letters")
        pile = pile * len(LETTERS) + LETTERS.index(letter)
    return pile


def text_of(entries, pile):
    if len(entries) == 0:
        return ""
    counts = [count for place, count in entries]
    row = take_row(pile, counts, sum(counts))[0]
    return "".join([SIGNS[entries[sign][0]] for sign in row])


def unpacked(leaf):
    parts = leaf.partition(";")
    text = text_of(entries_of(parts[0]), pile_of(parts[2]))
    # What the reading let pass shows here: a needless nought or letter, a part
    # left out, a pile that is no row of these counts.
    if packed(text) != leaf:
        raise NotLeaf("no text has this leaf")
    return text

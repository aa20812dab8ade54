"""Piles: signs laid on a whole number by their counts, and taken off it."""

from numberpile.errors import NoPile
from numberpile.shares import check_counts, count_of, first_of, sign_of, whole


def check_pile(pile):
    if pile < 0:
        raise NoPile("a pile is a number from 0 on")


# In lay and take the whole is asked first, since NoShares goes ahead of NoPile.


def lay(pile, counts, sign):
    total = whole(counts)
    check_pile(pile)
    count = count_of(counts, sign)
    return pile // count * total + first_of(counts, sign) + pile % count


def take(pile, counts):
    total = whole(counts)
    check_pile(pile)
    slot = pile % total
    sign = sign_of(counts, slot)
    return (sign, pile // total * counts[sign] + slot - first_of(counts, sign))


# The rows check for themselves, so that a row of no signs is refused as well.


def lay_row(pile, counts, row):
    check_counts(counts)
    check_pile(pile)
    for sign in reversed(row):
        pile = lay(pile, counts, sign)
    return pile


def take_row(pile, counts, many):
    check_counts(counts)
    check_pile(pile)
    row = []
    for place in range(many):
        taken = take(pile, counts)
        row.append(taken[0])
        pile = taken[1]
    return (row, pile)

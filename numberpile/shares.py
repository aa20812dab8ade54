"""Shares: the counts of signs, and the slots that they give to each sign."""

from numberpile.errors import NoShares, NoSign, NoSlot

MOST_SIGNS = 100
MOST_COUNT = 999


def check_counts(counts):
    if not 1 <= len(counts) <= MOST_SIGNS:
        raise NoShares("counts are of 1 to 100 signs")
    for count in counts:
        if not 0 <= count <= MOST_COUNT:
            raise NoShares("a count is from 0 to 999")
    if sum(counts) == 0:
        raise NoShares("not all counts are 0")


def check_sign(many, sign):
    if not 0 <= sign < many:
        raise NoSign("there is no such sign")


# The count by which a sign is laid; first_of asks check_sign alone, since it tells of a count of 0 too.
def count_of(counts, sign):
    check_sign(len(counts), sign)
    if counts[sign] == 0:
        raise NoSign("a sign whose count is 0 has no slot")
    return counts[sign]


def whole(counts):
    check_counts(counts)
    return sum(counts)


def first_of(counts, sign):
    check_counts(counts)
    check_sign(len(counts), sign)
    return sum(counts[:sign])


def sign_of(counts, slot):
    total = whole(counts)
    if not 0 <= slot < total:
        raise NoSlot("there is no such slot")
    sign = 0
    end = counts[0]
    # A sign whose count is 0 ends where it begins, so no slot stops at it.
    while slot >= end:
        sign += 1
        end += counts[sign]
    return sign

"""Hidden choices: signs laid by way of a hidden sign that the pile itself chooses."""

from numberpile.errors import NoShares
from numberpile.piles import check_pile, lay, take
from numberpile.shares import check_counts, check_sign


def check_full(counts):
    check_counts(counts)
    if min(counts) == 0:
        raise NoShares("counts for hidden choices are 1 at least")


def check_rows(rows, many, length):
    if len(rows) != many:
        raise NoShares("there are counts for each sign and no more")
    for counts in rows:
        check_full(counts)
        if len(counts) != length:
            raise NoShares("counts that belong together are of one length")


def check_tables(prior, given, back):
    check_full(prior)
    if len(given) == 0:
        raise NoShares("there are counts of signs for each hidden sign")
    many = len(given[0])
    check_rows(given, len(prior), many)
    check_rows(back, many, len(prior))


def lay_hidden(pile, prior, given, back, sign):
    check_tables(prior, given, back)
    check_pile(pile)
    check_sign(len(back), sign)
    chosen = take(pile, back[sign])
    hidden = chosen[0]
    return lay(lay(chosen[1], given[hidden], sign), prior, hidden)


def take_hidden(pile, prior, given, back):
    check_tables(prior, given, back)
    chosen = take(pile, prior)
    hidden = chosen[0]
    taken = take(chosen[1], given[hidden])
    sign = taken[0]
    return (sign, lay(taken[1], back[sign], hidden))

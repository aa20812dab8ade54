"""Models: what tells the counts of signs, behind the signs that it saw."""

from numberpile.errors import NoShares
from numberpile.piles import check_pile, lay, take
from numberpile.shares import MOST_COUNT, MOST_SIGNS, check_counts, check_sign

MOST_STEP = 9


class Model:
    def __init__(self, many):
        if not 1 <= many <= MOST_SIGNS:
            raise NoShares("a model has 1 to 100 signs")
        self.many = many


class Plain(Model):
    def __init__(self, counts):
        check_counts(counts)
        Model.__init__(self, len(counts))
        self.kept = list(counts)

    def counts(self):
        return list(self.kept)

    def see(self, sign):
        check_sign(self.many, sign)

    def fresh(self):
        return Plain(self.kept)


class Learner(Model):
    def __init__(self, many, step=1):
        Model.__init__(self, many)
        if not 1 <= step <= MOST_STEP:
            raise NoShares("a step is from 1 to 9")
        self.step = step
        self.learnt = [1] * many

    def counts(self):
        return list(self.learnt)

    def see(self, sign):
        check_sign(self.many, sign)
        self.learnt[sign] += self.step
        if self.learnt[sign] > MOST_COUNT:
            # Rounded up, so that no count falls to 0 and every sign can still be laid.
            self.learnt = [(count + 1) // 2 for count in self.learnt]

    def fresh(self):
        return Learner(self.many, self.step)


class Follower(Model):
    def __init__(self, many, step=1):
        Model.__init__(self, many)
        self.step = step
        # The beginning's Learner is never asked again behind the first sign,
        # so it needs no other place than that of the one that tells.
        self.teller = Learner(many, step)
        self.behind = [Learner(many, step) for sign in range(many)]

    def counts(self):
        return self.teller.counts()

    def see(self, sign):
        self.teller.see(sign)
        self.teller = self.behind[sign]

    def fresh(self):
        return Follower(self.many, self.step)


def press(pile, model, row):
    check_pile(pile)
    pupil = model.fresh()
    told = []
    # What is laid first is the last sign, but a model learns from the first on:
    # so all counts are asked ahead of the laying.
    for sign in row:
        told.append(pupil.counts())
        pupil.see(sign)
    for sign, counts in reversed(list(zip(row, told))):
        pile = lay(pile, counts, sign)
    return pile


def read(pile, model, many):
    check_pile(pile)
    pupil = model.fresh()
    row = []
    for place in range(many):
        taken = take(pile, pupil.counts())
        pupil.see(taken[0])
        row.append(taken[0])
        pile = taken[1]
    return (row, pile)

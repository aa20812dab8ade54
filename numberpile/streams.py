"""Streams: piles that are kept within bounds, so that words flow out of them and in again."""

from numberpile.errors import NoMore, NoShares
from numberpile.piles import lay, take
from numberpile.shares import count_of, whole

LEAST_BASE = 2
MOST_BASE = 1000
MOST_GRAIN = 100


class Stream:
    def __init__(self, counts, base, grain=4):
        total = whole(counts)
        if not LEAST_BASE <= base <= MOST_BASE:
            raise NoShares("a base is from 2 to 1,000")
        if not 1 <= grain <= MOST_GRAIN:
            raise NoShares("a grain is from 1 to 100")
        self.kept = list(counts)
        self.base = base
        self.grain = grain
        self.low = grain * total
        self.number = self.low
        self.words = []

    def lay_sign(self, sign):
        # Asked ahead of the words, since a refusal turns nothing.
        bound = self.grain * self.base * count_of(self.kept, sign)
        while self.number >= bound:
            self.words.append(self.number % self.base)
            self.number //= self.base
        self.number = lay(self.number, self.kept, sign)

    def take_sign(self):
        taken = take(self.number, self.kept)
        number = taken[1]
        left = len(self.words)
        # Words are only read here: the stream must stay as it was where they run out.
        while number < self.low:
            if left == 0:
                raise NoMore("no word is left")
            left -= 1
            number = self.base * number + self.words[left]
        while len(self.words) > left:
            self.words.pop()
        self.number = number
        return taken[0]

    def told(self):
        return (self.number, list(self.words))

"""Slots that are dealt: each sign's slots lie spread, and a number walks among them by bits."""

from numberpile.errors import NoMore, NoPile, NoSlot
from numberpile.shares import count_of, whole


def greatest_divisor(one, other):
    while other > 0:
        rest = one % other
        one = other
        other = rest
    return one


def step_of(total):
    step = total // 2 + total // 8 + 3
    # Only a step that shares no divisor with the whole comes to every slot.
    while greatest_divisor(step, total) > 1:
        step += 1
    return step


def deal(counts):
    total = whole(counts)
    step = step_of(total)
    signs = [0] * total
    slot = 0
    for sign, count in enumerate(counts):
        for turn in range(count):
            signs[slot] = sign
            slot = (slot + step) % total
    return signs


class Slots:
    def __init__(self, counts):
        signs = deal(counts)
        places = [[] for count in counts]
        numbers = []
        for slot, sign in enumerate(signs):
            numbers.append(counts[sign] + len(places[sign]))
            places[sign].append(slot)
        self.kept = list(counts)
        self.total = len(signs)
        self.signs = signs
        self.places = places
        self.numbers = numbers

    def check_number(self, number):
        if not self.total <= number < 2 * self.total:
            raise NoPile("a number is from the whole to below two wholes")

    def dealt(self):
        return list(self.signs)

    def raised(self, sign, number):
        count = count_of(self.kept, sign)
        if not count <= number < 2 * count:
            raise NoSlot("the sign has no slot of that number")
        return self.total + self.places[sign][number - count]

    def lowered(self, number):
        self.check_number(number)
        slot = number - self.total
        return (self.signs[slot], self.numbers[slot])

    def laid(self, number, row):
        # Checked here too, so that a row of no signs is refused as well.
        self.check_number(number)
        bits = []
        for sign in reversed(row):
            count = count_of(self.kept, sign)
            while number >= 2 * count:
                bits.append(number % 2)
                number //= 2
            number = self.raised(sign, number)
        return (number, bits)

    def taken(self, number, bits, many):
        self.check_number(number)
        left = list(bits)
        row = []
        for turn in range(many):
            found = self.lowered(number)
            row.append(found[0])
            number = found[1]
            while number < self.total:
                if len(left) == 0:
                    raise NoMore("no bit is left")
                number = 2 * number + left.pop()
        return (row, number, left)

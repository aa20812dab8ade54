"""Inputs and helpers that several test files share."""

WRONG_COUNTS = [
    [],
    [1] * 101,
    [0] * 101,
    [999] * 102,
    [-1],
    [3, -1],
    [-1, 3],
    [5, -2, 5],
    [1000],
    [1, 1000],
    [1000, 1],
    [1, 1000, 1],
    [-1, 1],
    [0],
    [0, 0, 0],
    [0] * 100,
    [10 ** 899],
    [1, -(10 ** 899)],
]

# The first and the last number that a count may be, one sign and 100, and
# counts of 0 at the front, in the middle and at the end.
GOOD_COUNTS = [
    [1],
    [7],
    [999],
    [1, 1],
    [2, 3, 5],
    [5, 3, 2],
    [0, 4],
    [4, 0],
    [0, 0, 3, 0, 0, 2, 0],
    [3, 0, 0, 2],
    [0, 999, 1],
    [1] * 100,
    [999] * 100,
    [0] * 99 + [1],
    [1] + [0] * 99,
    [(k * 37) % 11 for k in range(100)],
]

LARGE_PILES = [
    999,
    1000,
    123456789,
    2 ** 53 - 1,
    2 ** 53 + 1,
    2 ** 64,
    10 ** 30 + 7,
    3 ** 400 + 2,
    10 ** 899,
    10 ** 900 - 1,
]

LOW_PILES = [-1, -2, -999, -(10 ** 899)]

HUGE = 10 ** 899


def there(counts):
    """The signs that may be laid."""
    return [sign for sign, count in enumerate(counts) if count > 0]


def not_there(counts):
    """Signs that are to be refused where one is laid."""
    beyond = [-HUGE, -len(counts), -1, len(counts), len(counts) + 1, HUGE]
    return beyond + [sign for sign, count in enumerate(counts) if count == 0]


def slot_signs(counts):
    """The sign of each slot, counted out one by one."""
    signs = []
    for sign, count in enumerate(counts):
        for slot in range(count):
            signs.append(sign)
    return signs


def row_of(many, length, seed=1):
    """A row of signs from 0 to below many that follows no short pattern."""
    row = []
    number = seed
    for place in range(length):
        number = (number * 1103515245 + 12345) % 2147483648
        row.append(number // 65536 % many)
    return row

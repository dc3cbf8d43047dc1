"""Many lines, made by a fixed seed, against the document's words written down plainly."""

import random
import unittest

from unknownkinds.house import answers
from tests.lines import BIG, rowed, taken_apart
from tests.model import Model

PRICES = (1, 2, 3, 4, 5, 6, 7, 75, 99, 100, 133, 177, 1000000)


def some_open(pick, n):
    truth = list(range(n))
    pick.shuffle(truth)
    sorts = pick.choice((1, 1, 2, 6))
    kind_sorts = [pick.randrange(sorts) for _ in range(n)]
    rows = [truth, [kind_sorts[kind] for kind in truth], kind_sorts, [pick.choice(PRICES) for _ in range(n)]]
    if pick.random() < 0.2:
        spoil(pick, pick.choice(rows))
    return (0, [], rows)


def spoil(pick, row):
    how = pick.randrange(3)
    if how == 0:
        row[pick.randrange(len(row))] = pick.choice((-BIG, -1, 0, 1, 5, 6, 9, 10, 1000000, 1000001, BIG))
    if how == 1:
        row.pop()
    if how == 2:
        row.extend([1] * pick.choice((1, 10, 90)))


def some_row(pick, n):
    row = [pick.randrange(pick.choice((2, 3, 10))) for _ in range(n)]
    if pick.random() < 0.2:
        spoil(pick, row)
    return row


def some_number(pick, n, greatest):
    roll = pick.random()
    if roll < 0.04:
        return pick.choice((-BIG, -1, greatest + 1, BIG))
    if roll < 0.1:
        return pick.randint(0, greatest)
    return pick.randrange(min(n, greatest + 1))


def some_call(pick, n):
    place = pick.choice((0, 1, 1, 2, 2, 2, 3, 3, 4, 5, 5, 5, 6, 6, 7, 8))
    if place == 0:
        return some_open(pick, n)
    if place == 1:
        return (1, [some_number(pick, 3, 7)], [some_row(pick, n)])
    look = some_number(pick, n, 9)
    seconds = {2: (3, 7), 3: (2, 1), 5: (n, 9)}
    if place in seconds:
        return (place, [look, some_number(pick, *seconds[place])], [])
    return (place, [look] if place in (4, 6) else [], [])


def flat(call):
    return [call[0]] + call[1] + rowed(*call[2])


class AgainstModelTest(unittest.TestCase):
    def compare(self, calls):
        line = []
        for call in calls:
            line.extend(flat(call))
        given = taken_apart(answers(line))
        model = Model()
        self.assertEqual(given, [model.answer(*call) for call in calls], line)

    def test_many_small_lines(self):
        for seed in range(1500):
            pick = random.Random(seed)
            n = pick.randint(1, 5)
            calls = [some_open(pick, n)]
            while len(calls) < 25:
                calls.append(some_call(pick, n))
            if pick.random() < 0.1:
                calls.reverse()
            self.compare(calls)

    def test_some_longer_lines(self):
        for seed in range(30):
            pick = random.Random(seed)
            n = pick.randint(6, 7)
            calls = [some_open(pick, n)]
            while len(calls) < 30:
                calls.append(some_call(pick, n))
            self.compare(calls)


if __name__ == "__main__":
    unittest.main()

"""Many lines, made by a fixed seed, against the document's words written down plainly."""

import random
import unittest

from unknownkinds.house import answers
from tests.lines import BIG, rowed, taken_apart
from tests.model import Model, ModelOfManyLooks

PRICES = (1, 2, 3, 4, 5, 6, 7, 75, 99, 100, 133, 177, 1000000)


def some_open(pick, n):
    truth = list(range(n))
    pick.shuffle(truth)
    sorts = pick.choice((1, 1, 2, 6))
    kind_sorts = [pick.randrange(sorts) for _ in range(n)]
    rows = [truth, [kind_sorts[kind] for kind in truth], kind_sorts, [pick.choice(PRICES) for _ in range(n)]]
    if pick.random() < 0.2:
        spoil(pick, pick.choice(rows))
    return (0, [], rows)


def some_open_of_few_pairings(pick, n):
    truth = list(range(n))
    pick.shuffle(truth)
    kind_sorts = [kind % 2 for kind in range(n)]
    return (0, [], [truth, [kind_sorts[kind] for kind in truth], kind_sorts, [pick.choice(PRICES) for _ in range(n)]])


def one_sort_open(pick, truth):
    n = len(truth)
    return (0, [], [truth, [4] * n, [4] * n, [pick.choice(PRICES) for _ in range(n)]])


def spoil(pick, row):
    how = pick.randrange(3)
    if how == 0:
        row[pick.randrange(len(row))] = pick.choice((-BIG, -1, 0, 1, 5, 6, 9, 10, 1000000, 1000001, BIG))
    if how == 1:
        row.pop()
    if how == 2:
        row.extend([1] * pick.choice((1, 10, 90)))


def some_row(pick, n):
    row = [pick.randrange(pick.choice((2, 3, 10))) for _ in range(n)]
    if pick.random() < 0.2:
        spoil(pick, row)
    return row


def some_number(pick, n, greatest):
    roll = pick.random()
    if roll < 0.04:
        return pick.choice((-BIG, -1, greatest + 1, BIG))
    if roll < 0.1:
        return pick.randint(0, greatest)
    return pick.randrange(min(n, greatest + 1))


def some_pairing(pick, n):
    row = list(range(n))
    pick.shuffle(row)
    if pick.random() < 0.2:
        spoil(pick, row)
    return row


SHOWING = (1, 1, 2, 2, 2, 3, 3, 4, 5, 5, 5)
ASKING = (6, 7, 8, 9, 10, 10, 10, 11, 11, 12, 12, 13, 14, 14, 15, 16)


def some_call(pick, n):
    place = pick.choice((0,) + SHOWING + ASKING)
    if place == 0:
        return some_open(pick, n)
    if place == 1:
        return (1, [some_number(pick, 3, 7)], [some_row(pick, n)])
    if place == 11:
        return (11, [some_number(pick, 3, 7)], [])
    if place == 13:
        return (13, [], [some_pairing(pick, n)])
    look = some_number(pick, n, 9)
    seconds = {2: (3, 7), 3: (2, 1), 5: (n, 9), 10: (n, 9), 12: (n, 9)}
    if place in seconds:
        return (place, [look, some_number(pick, *seconds[place])], [])
    return (place, [look] if place in (4, 6, 9, 15) else [], [])


def every_question(n, rows):
    calls = [(7, [], []), (8, [], []), (14, [], []), (16, [], [])]
    calls.extend((11, [situation], []) for situation in range(8))
    calls.extend((13, [], [row]) for row in rows)
    for look in range(n):
        calls.extend((place, [look], []) for place in (6, 9, 15))
        calls.extend((place, [look, kind], []) for place in (10, 12) for kind in range(n))
    return calls


def flat(call):
    return [call[0]] + call[1] + rowed(*call[2])


class AgainstModelTest(unittest.TestCase):
    def compare(self, calls, model):
        self.assertLessEqual(len(calls), 200)
        line = []
        for call in calls:
            line.extend(flat(call))
        given = taken_apart(answers(line))
        self.assertEqual(given, [model.answer(*call) for call in calls], line)

    def test_many_small_lines(self):
        for seed in range(1500):
            pick = random.Random(seed)
            n = pick.randint(1, 5)
            calls = [some_open(pick, n)]
            while len(calls) < 40:
                calls.append(some_call(pick, n))
            if pick.random() < 0.1:
                calls.reverse()
            self.compare(calls, Model())

    def test_some_longer_lines(self):
        for seed in range(30):
            pick = random.Random(seed)
            n = pick.randint(6, 7)
            calls = [some_open(pick, n)]
            while len(calls) < 60:
                calls.append(some_call(pick, n))
            self.compare(calls, Model())

    def test_every_question_about_what_was_ruled_out(self):
        for seed in range(300):
            pick = random.Random(seed)
            n = pick.randint(2, 6)
            truth = list(range(n))
            pick.shuffle(truth)
            # Asked straight away or not at all, look by look and kind by kind, so that crowds of many sizes come up.
            share = pick.choice((0.4, 0.6, 0.8))
            pairs = [(look, kind) for look in range(n) for kind in range(n) if kind != truth[look]]
            calls = [one_sort_open(pick, truth)] + [(1, [3 * at], [some_row(pick, n)]) for at in range(2)]
            calls.extend((5, [look, kind], []) for look, kind in pairs if pick.random() < share)
            rows = [truth] + [some_pairing(pick, n) for at in range(20)]
            self.compare(calls + every_question(n, rows), Model())

    def test_200_calls_on_up_to_ten_looks(self):
        for seed in range(40):
            pick = random.Random(seed)
            n = pick.randint(8, 10)
            calls = [some_open_of_few_pairings(pick, n)]
            while len(calls) < 200:
                calls.append(some_call(pick, n))
            self.compare(calls, ModelOfManyLooks())


if __name__ == "__main__":
    unittest.main()

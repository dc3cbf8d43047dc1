"""The document's own words, written down once more: every pairing is gone through, one by one."""

from itertools import permutations


class Model:
    def __init__(self):
        self.truth = None
        self.told = {}

    def n(self):
        return len(self.truth)

    def fitting(self):
        return [p for p in permutations(range(self.n())) if all(p[l] in self.left[l] for l in range(self.n()))]

    def possible(self, look):
        return sorted({pairing[look] for pairing in self.fitting()})

    def answer(self, place, numbers, rows):
        if not within(place, numbers, rows):
            return [-1]
        if place == 0:
            return self.open(*rows)
        if self.truth is None:
            return [-2]
        if place == 1:
            return self.outcomes(numbers[0], rows[0])
        if place in (2, 3, 4, 5, 6) and numbers[0] >= self.n():
            return [-6]
        if place == 5 and numbers[1] >= self.n():
            return [-6]
        if place == 2 and numbers[1] not in self.told:
            return [-5]
        if place < 6:
            return self.show(place, *numbers)
        if place == 6:
            return [0] + self.possible(numbers[0])
        if place == 7:
            kinds = [self.possible(look) for look in range(self.n())]
            return [0] + [k[0] if len(k) == 1 else -1 for k in kinds]
        return [0, len(self.fitting())]

    def open(self, truth, look_sorts, kind_sorts, prices):
        if self.truth is not None:
            return [-3]
        n = len(truth)
        if n == 0 or set(truth) != set(range(n)):
            return [-4]
        if not n == len(look_sorts) == len(kind_sorts) == len(prices):
            return [-4]
        if any(look_sorts[look] != kind_sorts[truth[look]] for look in range(n)):
            return [-4]
        self.truth = truth
        self.prices = prices
        self.left = [{k for k in range(n) if kind_sorts[k] == sort} for sort in look_sorts]
        return [0]

    def outcomes(self, situation, row):
        if situation in self.told:
            return [-5]
        if len(row) != self.n():
            return [-4]
        self.told[situation] = row
        return [0]

    def show(self, place, look, other=None):
        kind = self.truth[look]
        if place == 2:
            shown = self.told[other][kind]
            stays = {k for k in range(self.n()) if self.told[other][k] == shown}
        if place == 3:
            both = [(p, p + p // 3) for p in self.prices]
            shown = both[kind][other]
            stays = {k for k in range(self.n()) if shown in both[k]}
        if place == 4:
            shown = kind
            stays = {kind}
        if place == 5:
            shown = 1 if kind == other else 0
            stays = {other} if shown else set(range(self.n())) - {other}
        self.left[look] &= stays
        return [0, shown]


def within(place, numbers, rows):
    look, kind, situation = range(10), range(10), range(8)
    number_ranges = {
        0: [], 1: [situation], 2: [look, situation], 3: [look, range(2)], 4: [look], 5: [look, kind], 6: [look],
        7: [], 8: [],
    }[place]
    row_ranges = {0: [kind, range(6), range(6), range(1, 1000001)], 1: [range(10)]}.get(place, [])
    if any(number not in limits for number, limits in zip(numbers, number_ranges, strict=True)):
        return False
    for row, limits in zip(rows, row_ranges, strict=True):
        if len(row) > 10 or any(number not in limits for number in row):
            return False
    return True

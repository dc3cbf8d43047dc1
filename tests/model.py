"""The document's own words, written down once more: every pairing is gone through, one by one."""

from fractions import Fraction
from itertools import combinations, permutations


class Model:
    def __init__(self):
        self.truth = None
        self.told = {}
        self.shown = 0
        self.fitting_now = None

    def n(self):
        return len(self.truth)

    def all_pairings(self):
        return permutations(range(self.n()))

    def fitting(self):
        # Kept until something more is shown: a line asks often and shows seldom.
        if self.fitting_now is None:
            self.fitting_now = [
                p for p in self.all_pairings() if all(p[look] in self.left[look] for look in range(self.n()))
            ]
        return self.fitting_now

    def possible(self, look):
        return sorted({pairing[look] for pairing in self.fitting()})

    def answer(self, place, numbers, rows):
        if not within(place, numbers, rows):
            return [-1]
        if place == 0:
            return self.open(*rows)
        if self.truth is None:
            return [-2]
        if place == 1:
            return self.outcomes(numbers[0], rows[0])
        if place in (2, 3, 4, 5, 6, 9, 10, 12, 15) and numbers[0] >= self.n():
            return [-6]
        if place in (5, 10, 12) and numbers[1] >= self.n():
            return [-6]
        if place in (2, 11) and numbers[-1] not in self.told:
            return [-5]
        if place < 6:
            return self.show(place, *numbers)
        questions = {
            6: self.possible, 7: self.certain, 8: self.count, 9: self.left_for, 10: self.why, 11: self.try_look,
            12: self.odds, 13: self.fits, 14: self.first, 15: self.worth, 16: self.state,
        }
        return [0] + questions[place](*numbers, *rows)

    def open(self, truth, look_sorts, kind_sorts, prices):
        if self.truth is not None:
            return [-3]
        n = len(truth)
        if n == 0 or set(truth) != set(range(n)):
            return [-4]
        if not n == len(look_sorts) == len(kind_sorts) == len(prices):
            return [-4]
        if any(look_sorts[look] != kind_sorts[truth[look]] for look in range(n)):
            return [-4]
        self.truth = truth
        self.look_sorts = look_sorts
        self.kind_sorts = kind_sorts
        self.prices = prices
        self.left = [{k for k in range(n) if kind_sorts[k] == sort} for sort in look_sorts]
        return [0]

    def outcomes(self, situation, row):
        if situation in self.told:
            return [-5]
        if len(row) != self.n():
            return [-4]
        self.told[situation] = row
        return [0]

    def show(self, place, look, other=None):
        kind = self.truth[look]
        if place == 2:
            shown = self.told[other][kind]
            stays = {k for k in range(self.n()) if self.told[other][k] == shown}
        if place == 3:
            both = [(p, p + p // 3) for p in self.prices]
            shown = both[kind][other]
            stays = {k for k in range(self.n()) if shown in both[k]}
        if place == 4:
            shown = kind
            stays = {kind}
        if place == 5:
            shown = 1 if kind == other else 0
            stays = {other} if shown else set(range(self.n())) - {other}
        self.left[look] &= stays
        self.shown += 1
        self.fitting_now = None
        return [0, shown]

    def certain(self):
        kinds = [self.possible(look) for look in range(self.n())]
        return [k[0] if len(k) == 1 else -1 for k in kinds]

    def count(self):
        return [len(self.fitting())]

    def left_for(self, look):
        return sorted(self.left[look])

    def why(self, look, kind):
        if kind in self.possible(look):
            return [0]
        if kind not in self.left[look]:
            return [1]
        others = [other for other in range(self.n()) if other != look]
        sets = [chosen for size in range(self.n()) for chosen in combinations(others, size)]
        crowded = [chosen for chosen in sets if len(self.left_together(chosen) - {kind}) < len(chosen)]
        return [2] + sorted(min(crowded, key=lambda chosen: sum(2 ** other for other in chosen)))

    def left_together(self, looks):
        return {kind for look in looks for kind in self.left[look]}

    def try_look(self, situation):
        worst = []
        for look in range(self.n()):
            outcomes = [self.told[situation][pairing[look]] for pairing in self.fitting()]
            worst.append((max(outcomes.count(outcome) for outcome in range(10)), look))
        number, look = min(worst)
        return [look, number]

    def odds(self, look, kind):
        given = [pairing[look] for pairing in self.fitting()]
        fraction = Fraction(given.count(kind), len(given))
        return [fraction.numerator, fraction.denominator]

    def fits(self, row):
        return [1 if tuple(row) in self.fitting() else 0]

    def first(self):
        return list(min(self.fitting()))

    def worth(self, look):
        prices = [self.prices[kind] for kind in self.possible(look)]
        return [min(prices), max(prices)]

    def state(self):
        return [self.n(), self.shown] + self.look_sorts + self.kind_sorts


class ModelOfManyLooks(Model):
    """The same for as many as 10 looks: pairings that give a look what isn't left for it are cut off early."""

    def all_pairings(self):
        begun = [()]
        for kinds in self.left:
            begun = [pairing + (kind,) for pairing in begun for kind in kinds if kind not in pairing]
        return begun


def within(place, numbers, rows):
    look, kind, situation = range(10), range(10), range(8)
    number_ranges = {
        0: [], 1: [situation], 2: [look, situation], 3: [look, range(2)], 4: [look], 5: [look, kind], 6: [look],
        7: [], 8: [], 9: [look], 10: [look, kind], 11: [situation], 12: [look, kind], 13: [], 14: [], 15: [look],
        16: [],
    }[place]
    row_ranges = {0: [kind, range(6), range(6), range(1, 1000001)], 1: [range(10)], 13: [kind]}.get(place, [])
    if any(number not in limits for number, limits in zip(numbers, number_ranges, strict=True)):
        return False
    for row, limits in zip(rows, row_ranges, strict=True):
        if len(row) > 10 or any(number not in limits for number in row):
            return False
    return True

"""The house: looks whose kinds are hidden, what was shown of them, and what follows from it."""

from unknownkinds.pairings import (
    count_pairings, crowded_looks, does_fit, first_pairing, is_pairing, pairings_by_kind, possible_kinds,
)

OUT_OF_RANGE = -1
NOT_OPEN = -2
OPEN_ALREADY = -3
WRONG_ROWS = -4
WRONG_SITUATION = -5
NO_SUCH = -6

LONGEST_ROW = 10

# By a call's place: the least and the greatest that each of its whole numbers may be.
NUMBER_RANGES = (
    (),  # open
    ((0, 7),),  # outcomes: situation
    ((0, 9), (0, 7)),  # use: look, situation
    ((0, 9), (0, 1)),  # offer: look, dear
    ((0, 9),),  # tell: look
    ((0, 9), (0, 9)),  # ask: look, kind
    ((0, 9),),  # possible: look
    (),  # certain
    (),  # count
    ((0, 9),),  # left: look
    ((0, 9), (0, 9)),  # why: look, kind
    ((0, 7),),  # try: situation
    ((0, 9), (0, 9)),  # odds: look, kind
    (),  # fits
    (),  # first
    ((0, 9),),  # worth: look
    (),  # state
)

# By the place of a call with rows: the least and the greatest that the numbers of each of them may be.
ROW_RANGES = {
    0: ((0, 9), (0, 5), (0, 5), (1, 1000000)),  # open: truth, looks' sorts, kinds' sorts, prices
    1: ((0, 9),),  # outcomes: for each kind its outcome
    13: ((0, 9),),  # fits: for each look a kind
}


class Line:
    """A line of calls, read from its beginning and never changed."""

    def __init__(self, calls):
        self.calls = calls
        self.place = 0

    def is_over(self):
        return self.place >= len(self.calls)

    def take_number(self):
        number = self.calls[self.place]
        self.place = self.place + 1
        return number

    def take_numbers(self, how_many):
        begin = self.place
        self.place = begin + how_many
        return self.calls[begin:self.place]

    def take_rows(self, how_many):
        rows = []
        while len(rows) < how_many:
            length = self.take_number()
            rows.append(self.take_numbers(length))
        return rows


class House:
    """What is so, what was told, and what's left for each look; a house that isn't open has no looks."""

    def __init__(self):
        self.truth = []
        self.look_sorts = []
        self.kind_sorts = []
        self.prices = []
        self.outcomes = {}
        self.left = []
        self.shown = 0

    def is_open(self):
        return len(self.truth) > 0

    def has(self, look_or_kind):
        return look_or_kind < len(self.truth)

    def show(self, look, staying):
        self.left[look] = staying
        self.shown = self.shown + 1


def answers(calls):
    """The answers to a line of calls, each with how many numbers it has before it."""
    line = Line(calls)
    house = House()
    given = []
    while not line.is_over():
        answer = answer_next(house, line)
        given.append(len(answer))
        given.extend(answer)
    return given


def answer_next(house, line):
    place = line.take_number()
    number_ranges = NUMBER_RANGES[place]
    row_ranges = ROW_RANGES.get(place, ())
    numbers = line.take_numbers(len(number_ranges))
    rows = line.take_rows(len(row_ranges))
    if not are_numbers_within(numbers, number_ranges) or not are_rows_within(rows, row_ranges):
        return [OUT_OF_RANGE]
    if place != 0 and not house.is_open():
        return [NOT_OPEN]
    return answer_call(house, place, numbers, rows)


def are_numbers_within(numbers, ranges):
    return all([is_within(number, limits) for number, limits in zip(numbers, ranges)])


def are_rows_within(rows, ranges):
    return all([is_row_within(row, limits) for row, limits in zip(rows, ranges)])


def is_row_within(row, limits):
    return len(row) <= LONGEST_ROW and all([is_within(number, limits) for number in row])


def is_within(number, limits):
    return limits[0] <= number and number <= limits[1]


def answer_call(house, place, numbers, rows):
    if place == 0:
        return open_house(house, rows[0], rows[1], rows[2], rows[3])
    if place == 1:
        return tell_outcomes(house, numbers[0], rows[0])
    if place == 2:
        return use_look(house, numbers[0], numbers[1])
    if place == 3:
        return offer_look(house, numbers[0], numbers[1])
    if place == 4:
        return tell_kind(house, numbers[0])
    if place == 5:
        return ask_kind(house, numbers[0], numbers[1])
    return answer_question(house, place, numbers, rows)


def answer_question(house, place, numbers, rows):
    if place == 6:
        return answer_possible(house, numbers[0])
    if place == 7:
        return answer_certain(house)
    if place == 8:
        return answer_count(house)
    if place == 9:
        return answer_left(house, numbers[0])
    if place == 10:
        return answer_why(house, numbers[0], numbers[1])
    if place == 11:
        return answer_try(house, numbers[0])
    if place == 12:
        return answer_odds(house, numbers[0], numbers[1])
    if place == 13:
        return answer_fits(house, rows[0])
    if place == 14:
        return answer_first(house)
    if place == 15:
        return answer_worth(house, numbers[0])
    return answer_state(house)


def open_house(house, truth, look_sorts, kind_sorts, prices):
    if house.is_open():
        return [OPEN_ALREADY]
    if len(truth) == 0 or not is_pairing(truth):
        return [WRONG_ROWS]
    if not all([len(row) == len(truth) for row in (look_sorts, kind_sorts, prices)]):
        return [WRONG_ROWS]
    if look_sorts != [kind_sorts[kind] for kind in truth]:
        return [WRONG_ROWS]
    house.truth = truth
    house.look_sorts = look_sorts
    house.kind_sorts = kind_sorts
    house.prices = prices
    house.left = [kinds_of_sort(sort, kind_sorts) for sort in look_sorts]
    return [0]


def kinds_of_sort(sort, kind_sorts):
    return [kind for kind, kind_sort in enumerate(kind_sorts) if kind_sort == sort]


def tell_outcomes(house, situation, row):
    if situation in house.outcomes:
        return [WRONG_SITUATION]
    if len(row) != len(house.truth):
        return [WRONG_ROWS]
    house.outcomes[situation] = row
    return [0]


def use_look(house, look, situation):
    if not house.has(look):
        return [NO_SUCH]
    if situation not in house.outcomes:
        return [WRONG_SITUATION]
    row = house.outcomes[situation]
    outcome = row[house.truth[look]]
    house.show(look, [kind for kind in house.left[look] if row[kind] == outcome])
    return [0, outcome]


def offer_look(house, look, dear):
    if not house.has(look):
        return [NO_SUCH]
    price = house.prices[house.truth[look]]
    offered = price if dear == 0 else dearer_price(price)
    house.show(look, [kind for kind in house.left[look] if may_be_offered(house.prices[kind], offered)])
    return [0, offered]


def may_be_offered(price, offered):
    # Who hears an offer isn't told whether it was the dearer price.
    return price == offered or dearer_price(price) == offered


def dearer_price(price):
    return price + price // 3


def tell_kind(house, look):
    if not house.has(look):
        return [NO_SUCH]
    kind = house.truth[look]
    house.show(look, [kind])
    return [0, kind]


def ask_kind(house, look, kind):
    if not house.has(look) or not house.has(kind):
        return [NO_SUCH]
    if house.truth[look] == kind:
        house.show(look, [kind])
        return [0, 1]
    house.show(look, [other for other in house.left[look] if other != kind])
    return [0, 0]


def answer_possible(house, look):
    if not house.has(look):
        return [NO_SUCH]
    return [0] + possible_kinds(house.left)[look]


def answer_certain(house):
    answer = [0]
    for kinds in possible_kinds(house.left):
        answer.append(kinds[0] if len(kinds) == 1 else -1)
    return answer


def answer_count(house):
    return [0, count_pairings(house.left)]


def answer_left(house, look):
    if not house.has(look):
        return [NO_SUCH]
    return [0] + house.left[look]


def answer_why(house, look, kind):
    if not house.has(look) or not house.has(kind):
        return [NO_SUCH]
    if kind not in house.left[look]:
        return [0, 1]
    if kind in possible_kinds(house.left)[look]:
        return [0, 0]
    return [0, 2] + crowded_looks(house.left, look, kind)


def answer_try(house, situation):
    if situation not in house.outcomes:
        return [WRONG_SITUATION]
    row = house.outcomes[situation]
    at_worst = [most_of_one_outcome(numbers, row) for numbers in pairings_by_kind(house.left)]
    fewest = min(at_worst)
    return [0, at_worst.index(fewest), fewest]


def most_of_one_outcome(numbers, row):
    by_outcome = {}
    for number, outcome in zip(numbers, row):
        by_outcome[outcome] = by_outcome.get(outcome, 0) + number
    return max(by_outcome.values())


def answer_odds(house, look, kind):
    if not house.has(look) or not house.has(kind):
        return [NO_SUCH]
    numbers = pairings_by_kind(house.left)[look]
    return [0] + lowest_terms(numbers[kind], sum(numbers))


def lowest_terms(part, whole):
    divisor = whole
    rest = part
    while rest > 0:
        before = divisor
        divisor = rest
        rest = before % divisor
    return [part // divisor, whole // divisor]


def answer_fits(house, row):
    return [0, 1 if does_fit(house.left, row) else 0]


def answer_first(house):
    return [0] + first_pairing(house.left)


def answer_worth(house, look):
    if not house.has(look):
        return [NO_SUCH]
    prices = [house.prices[kind] for kind in possible_kinds(house.left)[look]]
    return [0, min(prices), max(prices)]


def answer_state(house):
    return [0, len(house.truth), house.shown] + house.look_sorts + house.kind_sorts

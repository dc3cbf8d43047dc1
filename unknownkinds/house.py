"""The house: looks whose kinds are hidden, what was shown of them, and what follows from it."""

OUT_OF_RANGE = -1
NOT_OPEN = -2
OPEN_ALREADY = -3
WRONG_ROWS = -4
WRONG_SITUATION = -5
NO_SUCH = -6

LONGEST_ROW = 10

# By a call's place: the least and the greatest that each of its whole numbers may be.
NUMBER_RANGES = (
    (),  # open
    ((0, 7),),  # outcomes: situation
    ((0, 9), (0, 7)),  # use: look, situation
    ((0, 9), (0, 1)),  # offer: look, dear
    ((0, 9),),  # tell: look
    ((0, 9), (0, 9)),  # ask: look, kind
    ((0, 9),),  # possible: look
    (),  # certain
    (),  # count
)

# By the place of a call with rows: the least and the greatest that the numbers of each of them may be.
ROW_RANGES = {
    0: ((0, 9), (0, 5), (0, 5), (1, 1000000)),  # open: truth, looks' sorts, kinds' sorts, prices
    1: ((0, 9),),  # outcomes: for each kind its outcome
}


class Line:
    """A line of calls, read from its beginning and never changed."""

    def __init__(self, calls):
        self.calls = calls
        self.place = 0

    def is_over(self):
        return self.place >= len(self.calls)

    def take_number(self):
        number = self.calls[self.place]
        self.place = self.place + 1
        return number

    def take_numbers(self, how_many):
        begin = self.place
        self.place = begin + how_many
        return self.calls[begin:self.place]

    def take_rows(self, how_many):
        rows = []
        while len(rows) < how_many:
            length = self.take_number()
            rows.append(self.take_numbers(length))
        return rows


class House:
    """What is so, what was told, and what's left for each look; a house that isn't open has no looks."""

    def __init__(self):
        self.truth = []
        self.prices = []
        self.outcomes = {}
        self.left = []

    def is_open(self):
        return len(self.truth) > 0

    def has(self, look_or_kind):
        return look_or_kind < len(self.truth)


def answers(calls):
    """The answers to a line of calls, each with how many numbers it has before it."""
    line = Line(calls)
    house = House()
    given = []
    while not line.is_over():
        answer = answer_next(house, line)
        given.append(len(answer))
        given.extend(answer)
    return given


def answer_next(house, line):
    place = line.take_number()
    number_ranges = NUMBER_RANGES[place]
    row_ranges = ROW_RANGES.get(place, ())
    numbers = line.take_numbers(len(number_ranges))
    rows = line.take_rows(len(row_ranges))
    if not are_numbers_within(numbers, number_ranges) or not are_rows_within(rows, row_ranges):
        return [OUT_OF_RANGE]
    if place != 0 and not house.is_open():
        return [NOT_OPEN]
    return answer_call(house, place, numbers, rows)


def are_numbers_within(numbers, ranges):
    return all([is_within(number, limits) for number, limits in zip(numbers, ranges)])


def are_rows_within(rows, ranges):
    return all([is_row_within(row, limits) for row, limits in zip(rows, ranges)])


def is_row_within(row, limits):
    return len(row) <= LONGEST_ROW and all([is_within(number, limits) for number in row])


def is_within(number, limits):
    return limits[0] <= number and number <= limits[1]


def answer_call(house, place, numbers, rows):
    if place == 0:
        return open_house(house, rows[0], rows[1], rows[2], rows[3])
    if place == 1:
        return tell_outcomes(house, numbers[0], rows[0])
    if place == 2:
        return use_look(house, numbers[0], numbers[1])
    if place == 3:
        return offer_look(house, numbers[0], numbers[1])
    if place == 4:
        return tell_kind(house, numbers[0])
    if place == 5:
        return ask_kind(house, numbers[0], numbers[1])
    if place == 6:
        return answer_possible(house, numbers[0])
    if place == 7:
        return answer_certain(house)
    return answer_count(house)


def open_house(house, truth, look_sorts, kind_sorts, prices):
    if house.is_open():
        return [OPEN_ALREADY]
    if len(truth) == 0 or not is_pairing(truth):
        return [WRONG_ROWS]
    if not all([len(row) == len(truth) for row in (look_sorts, kind_sorts, prices)]):
        return [WRONG_ROWS]
    if look_sorts != [kind_sorts[kind] for kind in truth]:
        return [WRONG_ROWS]
    house.truth = truth
    house.prices = prices
    house.left = [kinds_of_sort(sort, kind_sorts) for sort in look_sorts]
    return [0]


def is_pairing(row):
    return sorted(row) == list(range(len(row)))


def kinds_of_sort(sort, kind_sorts):
    return [kind for kind, kind_sort in enumerate(kind_sorts) if kind_sort == sort]


def tell_outcomes(house, situation, row):
    if situation in house.outcomes:
        return [WRONG_SITUATION]
    if len(row) != len(house.truth):
        return [WRONG_ROWS]
    house.outcomes[situation] = row
    return [0]


def use_look(house, look, situation):
    if not house.has(look):
        return [NO_SUCH]
    if situation not in house.outcomes:
        return [WRONG_SITUATION]
    row = house.outcomes[situation]
    outcome = row[house.truth[look]]
    house.left[look] = [kind for kind in house.left[look] if row[kind] == outcome]
    return [0, outcome]


def offer_look(house, look, dear):
    if not house.has(look):
        return [NO_SUCH]
    price = house.prices[house.truth[look]]
    offered = price if dear == 0 else dearer_price(price)
    house.left[look] = [kind for kind in house.left[look] if may_be_offered(house.prices[kind], offered)]
    return [0, offered]


def may_be_offered(price, offered):
    # Who hears an offer isn't told whether it was the dearer price.
    return price == offered or dearer_price(price) == offered


def dearer_price(price):
    return price + price // 3


def tell_kind(house, look):
    if not house.has(look):
        return [NO_SUCH]
    kind = house.truth[look]
    house.left[look] = [kind]
    return [0, kind]


def ask_kind(house, look, kind):
    if not house.has(look) or not house.has(kind):
        return [NO_SUCH]
    if house.truth[look] == kind:
        house.left[look] = [kind]
        return [0, 1]
    house.left[look] = [other for other in house.left[look] if other != kind]
    return [0, 0]


def answer_possible(house, look):
    if not house.has(look):
        return [NO_SUCH]
    return [0] + possible_kinds(house.left, look)


def answer_certain(house):
    answer = [0]
    for look in range(len(house.left)):
        kinds = possible_kinds(house.left, look)
        answer.append(kinds[0] if len(kinds) == 1 else -1)
    return answer


def answer_count(house):
    ways = ways_to_take(house.left)
    return [0, ways.get(all_taken(len(house.left)), 0)]


def possible_kinds(left, look):
    # A kind is possible if the other looks can share out all the other kinds.
    ways = ways_to_take(left[:look] + left[look + 1:])
    everything = all_taken(len(left))
    return [kind for kind in left[look] if everything - (1 << kind) in ways]


def ways_to_take(left):
    """For each set of kinds that these looks can have: in how many ways they can have them.

    A set of kinds is a number whose bits are its kinds. Going by sets, not by
    pairings, there are at most 1024 of them, where there may be 3628800 pairings.
    """
    ways = {0: 1}
    for kinds in left:
        ways = ways_with_one_more(ways, kinds)
    return ways


def ways_with_one_more(ways, kinds):
    grown = {}
    for taken, number in ways.items():
        for kind in kinds:
            bit = 1 << kind
            if (taken & bit) == 0:
                grown[taken | bit] = grown.get(taken | bit, 0) + number
    return grown


def all_taken(how_many):
    return (1 << how_many) - 1

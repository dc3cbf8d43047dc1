"""What follows from the kinds that are left for each look: pairings that fit, counted and found.

Here left is a list with, for each look, the list of the kinds that are left for
it. A set of kinds or of looks is a number whose bits are its members: going by
sets, there are at most 1024 of them, where there may be 3628800 pairings.
"""


def is_pairing(row):
    return sorted(row) == list(range(len(row)))


def does_fit(left, row):
    if len(row) != len(left) or not is_pairing(row):
        return False
    return all([kind in kinds for kind, kinds in zip(row, left)])


def count_pairings(left):
    return ways_to_take(left)[-1].get(all_of(len(left)), 0)


def pairings_by_kind(left):
    """For each look and each kind: how many of the pairings that fit give the look this kind."""
    before = ways_to_take(left)
    behind = ways_to_take_behind(left)
    how_many = len(left)
    return [pairings_of_look(kinds, before[look], behind[look], how_many) for look, kinds in enumerate(left)]


def pairings_of_look(kinds, before, behind, how_many):
    numbers = [0] * how_many
    for taken, ways in before.items():
        free = all_of(how_many) - taken
        for kind in kinds:
            if has_member(free, kind):
                numbers[kind] = numbers[kind] + ways * behind.get(free - set_of(kind), 0)
    return numbers


def possible_kinds(left):
    """For each look the kinds that are possible for it, in order."""
    return [kinds_with_some(numbers) for numbers in pairings_by_kind(left)]


def kinds_with_some(numbers):
    return [kind for kind, number in enumerate(numbers) if number > 0]


def first_pairing(left):
    behind = ways_to_take_behind(left)
    free = all_of(len(left))
    pairing = []
    for look, kinds in enumerate(left):
        kind = least_kind(kinds, free, behind[look])
        pairing.append(kind)
        free = free - set_of(kind)
    return pairing


def least_kind(kinds, free, behind):
    # What stays free must be what the looks behind can share out among them.
    return min([kind for kind in kinds if has_member(free, kind) and free - set_of(kind) in behind])


def crowded_looks(left, look, kind):
    """The least set of other looks that are more than the kinds left for them, this kind not counted.

    If the kind isn't possible for the look, there is such a set.
    """
    together = kinds_together(left)
    sizes = sizes_of_sets(len(left))
    spared = all_of(len(left)) - set_of(kind)
    crowded = [
        looks for looks, kinds in enumerate(together)
        if not has_member(looks, look) and sizes[kinds & spared] < sizes[looks]
    ]
    return members_of(min(crowded), len(left))


def kinds_together(left):
    """By each set of looks: the set of all kinds that are left for one of them."""
    together = [0]
    for kinds in left:
        own = sum([set_of(kind) for kind in kinds])
        together = together + [others | own for others in together]
    return together


def sizes_of_sets(how_many):
    sizes = [0]
    while len(sizes) <= all_of(how_many):
        sizes = sizes + [size + 1 for size in sizes]
    return sizes


def ways_to_take(left):
    """By how many looks, from the first on: for each set of kinds that they can have, in how many ways."""
    steps = [{0: 1}]
    for kinds in left:
        steps.append(ways_with_one_more(steps[-1], kinds))
    return steps


def ways_to_take_behind(left):
    """By a look: for each set of kinds that the looks behind it can have, in how many ways."""
    steps = ways_to_take(list(reversed(left[1:])))
    return list(reversed(steps))


def ways_with_one_more(ways, kinds):
    grown = {}
    for taken, number in ways.items():
        for kind in kinds:
            if not has_member(taken, kind):
                more = taken | set_of(kind)
                grown[more] = grown.get(more, 0) + number
    return grown


def all_of(how_many):
    return (1 << how_many) - 1


def set_of(member):
    return 1 << member


def has_member(these, member):
    return ((these >> member) & 1) == 1


def members_of(these, how_many):
    return [member for member in range(how_many) if has_member(these, member)]

"""Lines of calls for the tests: calls by their names, and answers taken apart."""

from unknownkinds.house import answers

BIG = 10 ** 18


def rowed(*rows):
    flat = []
    for row in rows:
        flat.append(len(row))
        flat.extend(row)
    return flat


def open_(truth, look_sorts, kind_sorts, prices):
    return [0] + rowed(truth, look_sorts, kind_sorts, prices)


def outcomes(situation, row):
    return [1, situation] + rowed(row)


def use(look, situation):
    return [2, look, situation]


def offer(look, dear):
    return [3, look, dear]


def tell(look):
    return [4, look]


def ask(look, kind):
    return [5, look, kind]


def possible(look):
    return [6, look]


def certain():
    return [7]


def count():
    return [8]


def left(look):
    return [9, look]


def why(look, kind):
    return [10, look, kind]


def try_look(situation):
    return [11, situation]


def odds(look, kind):
    return [12, look, kind]


def fits(row):
    return [13] + rowed(row)


def first():
    return [14]


def worth(look):
    return [15, look]


def state():
    return [16]


def one_sort(truth, prices=None):
    """An open call where all looks and kinds are of sort 0."""
    n = len(truth)
    return open_(truth, [0] * n, [0] * n, prices if prices is not None else [1] * n)


def taken_apart(given):
    """The answers, one list for each call."""
    apart = []
    at = 0
    while at < len(given):
        how_many = given[at]
        answer = given[at + 1:at + 1 + how_many]
        if len(answer) != how_many or how_many < 1:
            raise AssertionError(f"an answer of {how_many} numbers is cut short or empty: {given!r}")
        apart.append(answer)
        at += 1 + how_many
    return apart


def asked(*calls):
    """What these calls answer, one list for each."""
    line = []
    for call in calls:
        line.extend(call)
    return taken_apart(answers(line))


def last(*calls):
    """What the last of these calls answers."""
    return asked(*calls)[-1]


def seen(n):
    """Calls that together show all that can be seen of an open house of n looks, but for its outcomes."""
    calls = [count(), certain(), first(), state()]
    for look in range(n):
        calls.extend([possible(look), left(look), worth(look)])
        for kind in range(n):
            calls.extend([why(look, kind), odds(look, kind)])
    return calls

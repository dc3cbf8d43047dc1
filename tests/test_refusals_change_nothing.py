import unittest

from tests.lines import (
    BIG, ask, asked, certain, count, first, fits, left, odds, offer, one_sort, open_, outcomes, possible, seen, state,
    tell, try_look, use, why, worth,
)

SHOWN = [
    one_sort([2, 0, 3, 1], [30, 40, 40, 53]),
    outcomes(2, [1, 2, 1, 2]),
    use(0, 2),
    offer(1, 1),
    ask(2, 0),
]
REFUSED = [
    (open_([0], [0], [0], [0]), -1),
    (open_([0], [0], [0], [1]), -3),
    (open_([], [], [], []), -3),
    (outcomes(8, [1, 1, 1, 1]), -1),
    (outcomes(3, [1, 1, 1, 10]), -1),
    (outcomes(2, [3, 3, 3, 3]), -5),
    (outcomes(2, []), -5),
    (outcomes(3, [1]), -4),
    (use(10, 2), -1),
    (use(0, 8), -1),
    (use(4, 2), -6),
    (use(4, 3), -6),
    (use(1, 3), -5),
    (offer(0, 2), -1),
    (offer(4, 0), -6),
    (tell(-1), -1),
    (tell(4), -6),
    (ask(1, 10), -1),
    (ask(1, 4), -6),
    (ask(4, 1), -6),
    (possible(10), -1),
    (possible(4), -6),
    (left(10), -1),
    (left(4), -6),
    (why(-1, 0), -1),
    (why(0, 10), -1),
    (why(4, 0), -6),
    (why(0, 4), -6),
    (try_look(8), -1),
    (try_look(3), -5),
    (odds(BIG, 0), -1),
    (odds(0, -BIG), -1),
    (odds(4, 0), -6),
    (odds(0, 4), -6),
    (fits([2, 0, 3, 10]), -1),
    (fits([0] * 11), -1),
    (worth(10), -1),
    (worth(4), -6),
]
AFTER = (
    seen(4) + [try_look(2), outcomes(3, [1, 2, 3, 4]), try_look(3), fits([2, 0, 3, 1])]
    + [use(3, 3), use(3, 2), offer(3, 0)] + seen(4)
)


class RefusalTest(unittest.TestCase):
    def test_each_refusal_is_its_number_alone_and_changes_nothing(self):
        without = asked(*SHOWN, *AFTER)
        for call, number in REFUSED:
            given = asked(*SHOWN, call, *AFTER)
            self.assertEqual(given[len(SHOWN)], [number], call)
            self.assertEqual(given[:len(SHOWN)] + given[len(SHOWN) + 1:], without, call)

    def test_all_of_them_one_behind_another(self):
        without = asked(*SHOWN, *AFTER)
        given = asked(*SHOWN, *[call for call, number in REFUSED], *AFTER)
        behind = len(SHOWN) + len(REFUSED)
        self.assertEqual(given[len(SHOWN):behind], [[number] for call, number in REFUSED])
        self.assertEqual(given[:len(SHOWN)] + given[behind:], without)

    def test_while_the_house_is_not_open(self):
        before = [
            outcomes(2, [9, 9, 9, 9]), outcomes(3, []), use(0, 2), use(9, 7), offer(0, 1), tell(0), ask(0, 0),
            possible(0), certain(), count(), left(0), why(0, 0), why(9, 9), try_look(0), odds(0, 0), odds(9, 9),
            fits([]), fits([0, 1]), first(), worth(0), state(),
        ]
        given = asked(*before, *SHOWN, *AFTER)
        self.assertEqual(given[:len(before)], [[-2]] * len(before))
        self.assertEqual(given[len(before):], asked(*SHOWN, *AFTER))


if __name__ == "__main__":
    unittest.main()

import unittest

from tests.lines import (
    BIG, ask, asked, certain, count, first, fits, last, left, odds, offer, one_sort, open_, outcomes, possible, seen,
    state, tell, try_look, use, why, worth,
)

PRICES = [30, 40, 20, 53]
HOUSE = one_sort([2, 0, 3, 1], PRICES)


class WorthTest(unittest.TestCase):
    def test_least_and_greatest(self):
        self.assertEqual(last(HOUSE, worth(0)), [0, 20, 53])
        self.assertEqual(asked(HOUSE, ask(1, 2), worth(1), ask(1, 3), worth(1))[2:], [[0, 30, 53], [0, 0], [0, 30, 40]])

    def test_of_one_sort(self):
        house = open_([0, 1, 2, 3], [0, 0, 1, 1], [0, 0, 1, 1], [5, 9, 1, 1000000])
        self.assertEqual(asked(house, worth(0), worth(3))[1:], [[0, 5, 9], [0, 1, 1000000]])

    def test_certain(self):
        self.assertEqual(asked(HOUSE, tell(2), worth(2))[2:], [[0, 53, 53]])
        self.assertEqual(last(one_sort([0], [1000000]), worth(0)), [0, 1000000, 1000000])

    def test_a_kind_left_but_not_possible_has_the_least_price(self):
        self.assertEqual(asked(HOUSE, tell(0), left(1), worth(1))[2:], [[0, 0, 1, 2, 3], [0, 30, 53]])

    def test_a_kind_left_but_not_possible_has_the_greatest_price(self):
        self.assertEqual(asked(HOUSE, tell(2), left(1), worth(1))[2:], [[0, 0, 1, 2, 3], [0, 20, 40]])

    def test_kinds_left_but_not_possible_have_both(self):
        # Looks 0 and 2 have kinds 2 and 3 between them, the cheapest and the dearest.
        shown = [HOUSE, ask(0, 0), ask(0, 1), ask(2, 0), ask(2, 1)]
        self.assertEqual(asked(*shown, worth(0), worth(1), worth(3))[5:], [[0, 20, 53], [0, 30, 40], [0, 30, 40]])

    def test_never_the_dearer_price(self):
        house = one_sort([0, 1], [300, 600])
        self.assertEqual(asked(house, offer(0, 1), worth(0), worth(1))[1:], [[0, 400], [0, 300, 300], [0, 600, 600]])

    def test_ten_looks(self):
        ten = one_sort(list(range(10)), [500, 7, 1000000, 3, 9, 1, 8, 8, 8, 2])
        self.assertEqual(asked(ten, worth(0), worth(9), tell(2), worth(9))[1:],
                         [[0, 1, 1000000], [0, 1, 1000000], [0, 2], [0, 1, 500]])

    def test_asking_changes_nothing(self):
        shown = [HOUSE, tell(0), ask(2, 1)]
        self.assertEqual(asked(*shown, worth(0), worth(3), *seen(4))[5:], asked(*shown, *seen(4))[3:])

    def test_no_such_look(self):
        self.assertEqual(asked(HOUSE, worth(3), worth(4), worth(9))[1:], [[0, 20, 53], [-6], [-6]])

    def test_not_open(self):
        self.assertEqual(asked(worth(0), worth(9)), [[-2], [-2]])

    def test_out_of_range(self):
        for look in (-1, 10, BIG, -BIG):
            self.assertEqual(asked(worth(look), HOUSE, worth(look)), [[-1], [0], [-1]], look)


class StateTest(unittest.TestCase):
    def test_nothing_shown(self):
        self.assertEqual(last(open_([1, 2, 0], [1, 5, 0], [0, 1, 5], [1, 1, 1]), state()),
                         [0, 3, 0, 1, 5, 0, 0, 1, 5])

    def test_one_and_ten_looks(self):
        self.assertEqual(last(open_([0], [5], [5], [1]), state()), [0, 1, 0, 5, 5])
        self.assertEqual(last(one_sort(list(range(10))), state()), [0, 10, 0] + [0] * 20)

    def test_accepted_calls_2_to_5_are_counted(self):
        self.assertEqual(
            asked(HOUSE, outcomes(0, [1, 2, 3, 4]), state(), use(0, 0), state(), offer(0, 0), state(), offer(1, 1),
                  state(), tell(0), state(), ask(0, 2), state(), ask(0, 3), state())[2::2],
            [[0, 4, shown] + [0] * 8 for shown in range(7)],
        )

    def test_what_shows_nothing_new_is_counted_too(self):
        self.assertEqual(last(HOUSE, tell(0), tell(0), tell(0), state())[:3], [0, 4, 3])
        self.assertEqual(last(one_sort([0]), ask(0, 0), offer(0, 0), state()), [0, 1, 2, 0, 0])

    def test_refused_ones_are_not_counted(self):
        refused = [use(0, 1), use(4, 0), use(10, 0), use(0, 8), offer(4, 0), offer(0, 2), offer(-1, 0), tell(4),
                   tell(10), ask(4, 0), ask(0, 4), ask(0, 10), ask(-BIG, 0), HOUSE, outcomes(0, [1]),
                   outcomes(1, [10])]
        given = asked(HOUSE, outcomes(0, [1, 2, 3, 4]), tell(1), *refused, state())
        self.assertTrue(all(len(answer) == 1 and answer[0] < 0 for answer in given[3:-1]), given)
        self.assertEqual(given[-1], [0, 4, 1] + [0] * 8)

    def test_those_before_the_house_is_open_are_not_counted(self):
        self.assertEqual(asked(use(0, 0), offer(0, 0), tell(0), ask(0, 0), state(), HOUSE, state())[4:],
                         [[-2], [0], [0, 4, 0] + [0] * 8])

    def test_the_other_calls_are_not_counted(self):
        others = [outcomes(0, [1, 2, 3, 4]), outcomes(1, [1, 2, 3, 4]), possible(0), certain(), count(), left(0),
                  why(0, 0), try_look(0), odds(0, 0), fits([0, 1, 2, 3]), first(), worth(0), state()]
        given = asked(HOUSE, tell(0), *others, state())
        self.assertTrue(all(answer[0] == 0 for answer in given), given)
        self.assertEqual(given[-1], [0, 4, 1] + [0] * 8)

    def test_as_many_things_as_a_line_can_show(self):
        self.assertEqual(last(HOUSE, *[tell(0)] * 198, state()), [0, 4, 198] + [0] * 8)

    def test_not_open(self):
        self.assertEqual(asked(state(), open_([], [], [], []), state()), [[-2], [-4], [-2]])


if __name__ == "__main__":
    unittest.main()

import unittest

from tests.lines import (
    BIG, ask, asked, last, left, offer, one_sort, open_, outcomes, possible, seen, tell, use, why,
)

HOUSE = one_sort([2, 0, 3, 1])
STRAIGHT = one_sort([0, 1, 2, 3])
TEN = one_sort(list(range(10)))


class LeftTest(unittest.TestCase):
    def test_at_first_all_kinds_of_the_looks_sort(self):
        house = open_([2, 1, 0, 3], [0, 4, 0, 4], [0, 4, 0, 4], [1, 2, 3, 4])
        self.assertEqual(asked(house, left(0), left(1), left(2), left(3))[1:],
                         [[0, 0, 2], [0, 1, 3], [0, 0, 2], [0, 1, 3]])

    def test_each_thing_shown_takes_some_away(self):
        house = one_sort([2, 0, 3, 1], [30, 40, 40, 53])
        self.assertEqual(
            asked(house, outcomes(0, [1, 2, 1, 1]), use(0, 0), left(0), offer(0, 0), left(0), offer(1, 1), left(1),
                  ask(2, 0), left(2), ask(3, 1), left(3), tell(0), left(0))[2:],
            [[0, 1], [0, 0, 2, 3], [0, 40], [0, 0, 2], [0, 40], [0, 0, 1, 2],
             [0, 0], [0, 1, 2, 3], [0, 1], [0, 1], [0, 2], [0, 2]],
        )

    def test_nothing_comes_back(self):
        self.assertEqual(asked(HOUSE, tell(0), outcomes(0, [5, 5, 5, 5]), use(0, 0), offer(0, 1), left(0))[5:],
                         [[0, 2]])

    def test_a_kind_that_is_left_and_not_possible(self):
        self.assertEqual(asked(STRAIGHT, tell(0), left(1), possible(1))[2:], [[0, 0, 1, 2, 3], [0, 1, 2, 3]])

    def test_what_is_shown_of_a_look_takes_nothing_from_others(self):
        told = [tell(look) for look in range(3)]
        self.assertEqual(asked(STRAIGHT, *told, left(3), possible(3))[4:], [[0, 0, 1, 2, 3], [0, 3]])

    def test_one_and_ten_looks(self):
        self.assertEqual(last(one_sort([0]), left(0)), [0, 0])
        for look in (0, 9):
            self.assertEqual(last(TEN, left(look)), [0, 0, 1, 2, 3, 4, 5, 6, 7, 8, 9])

    def test_asking_changes_nothing(self):
        shown = [STRAIGHT, tell(0), ask(2, 1)]
        self.assertEqual(asked(*shown, left(0), left(1), *seen(4))[5:], asked(*shown, *seen(4))[3:])

    def test_no_such_look(self):
        self.assertEqual(asked(HOUSE, left(3), left(4), left(9)), [[0], [0, 0, 1, 2, 3], [-6], [-6]])
        self.assertEqual(asked(one_sort([0]), left(1), left(9))[1:], [[-6], [-6]])

    def test_not_open(self):
        self.assertEqual(asked(left(0), left(9)), [[-2], [-2]])

    def test_out_of_range(self):
        for look in (-1, 10, BIG, -BIG):
            self.assertEqual(last(HOUSE, left(look)), [-1], look)
            self.assertEqual(last(left(look)), [-1], look)


class WhyTest(unittest.TestCase):
    def test_all_three_answers(self):
        self.assertEqual(
            asked(STRAIGHT, tell(0), ask(1, 2), why(1, 3), why(1, 2), why(1, 0))[3:],
            [[0, 0], [0, 1], [0, 2, 0]],
        )

    def test_possible(self):
        for look in range(4):
            for kind in range(4):
                self.assertEqual(last(HOUSE, why(look, kind)), [0, 0])
        self.assertEqual(last(one_sort([0]), why(0, 0)), [0, 0])
        self.assertEqual(last(TEN, why(9, 9)), [0, 0])

    def test_possible_though_the_look_is_certain(self):
        self.assertEqual(asked(STRAIGHT, tell(0), why(0, 0), why(0, 1))[2:], [[0, 0], [0, 1]])

    def test_of_another_sort_is_not_left(self):
        house = open_([0, 1, 2], [0, 0, 1], [0, 0, 1], [1, 1, 1])
        self.assertEqual(asked(house, why(0, 2), why(2, 0), why(0, 1))[1:], [[0, 1], [0, 1], [0, 0]])

    def test_not_left_although_not_possible_either_way(self):
        # Look 0 is kind 0, so look 1 could not be; but it was asked, too.
        self.assertEqual(asked(STRAIGHT, tell(0), ask(1, 0), why(1, 0))[2:], [[0, 0], [0, 1]])

    def test_two_looks_with_two_kinds(self):
        shown = [STRAIGHT, outcomes(0, [1, 1, 2, 2]), use(1, 0), use(0, 0)]
        self.assertEqual(asked(*shown, why(2, 0), why(3, 1), why(2, 2), why(0, 2))[4:],
                         [[0, 2, 0, 1], [0, 2, 0, 1], [0, 0], [0, 1]])

    def test_three_looks_with_three_kinds_no_two_of_them_alike(self):
        shown = [ask(0, 2), ask(0, 3), ask(1, 0), ask(1, 3), ask(2, 1), ask(2, 3)]
        self.assertEqual(asked(STRAIGHT, *shown, why(3, 0), why(3, 1), why(3, 2), why(3, 3))[7:],
                         [[0, 2, 0, 1, 2]] * 3 + [[0, 0]])

    def test_a_kind_that_only_one_look_can_have_crowds_all_others(self):
        # Kind 3 is left for look 3 alone, so the other looks need kinds 0 to 2 among them.
        shown = [ask(0, 3), ask(1, 3), ask(2, 3)]
        self.assertEqual(asked(STRAIGHT, *shown, why(3, 0), why(3, 2))[4:], [[0, 2, 0, 1, 2], [0, 2, 0, 1, 2]])

    def test_the_asked_kind_is_not_counted(self):
        # One kind is left for look 0, no fewer than there are looks: but it's the one that's asked for.
        self.assertEqual(last(one_sort([0, 1]), tell(0), why(1, 0)), [0, 2, 0])
        # Looks 0 and 1 have kinds 0 and 1: that's why look 2 isn't kind 1, and says nothing of kind 2.
        shown = [one_sort([0, 1, 2, 3]), ask(0, 2), ask(0, 3), ask(1, 2), ask(1, 3)]
        self.assertEqual(asked(*shown, why(2, 1), why(2, 2))[5:], [[0, 2, 0, 1], [0, 0]])

    def test_the_asked_look_is_never_in_the_set(self):
        # The asked look stands ahead of the others, between them, behind them.
        for look in range(3):
            others = [other for other in range(3) if other != look]
            shown = [one_sort([0, 1, 2]), ask(others[0], look), ask(others[1], look)]
            self.assertEqual(asked(*shown, why(look, others[0]), why(look, others[1]))[3:],
                             [[0, 2] + others, [0, 2] + others], look)

    # Of all sets that would do the one with the least sum lies in every other one (where two sets do, so does
    # what they share). So it has the fewest looks, too, and no house tells the two apart.
    def test_of_several_sets_the_one_with_the_least_sum(self):
        # For kind 2 look 2 alone would do, and so would looks 0 and 2, looks 1 and 2, and all three.
        shown = [tell(0), tell(1), tell(2)]
        self.assertEqual(asked(STRAIGHT, *shown, why(3, 2), why(3, 1), why(3, 0))[4:],
                         [[0, 2, 2], [0, 2, 1], [0, 2, 0]])
        # Looks 0, 4 and 5 would do for kind 5, but looks 4 and 5 alone have the lesser sum.
        six = one_sort([0, 1, 2, 3, 4, 5])
        shown = [tell(0)] + [ask(look, kind) for look in (4, 5) for kind in range(4)]
        self.assertEqual(asked(six, *shown, why(1, 5), why(1, 0), why(3, 4))[-3:],
                         [[0, 2, 4, 5], [0, 2, 0], [0, 2, 4, 5]])

    def test_a_set_is_of_looks_not_of_kinds(self):
        # Looks 0 and 2 have kinds 1 and 3 between them.
        shown = [one_sort([3, 0, 1, 2]), ask(0, 0), ask(0, 2), ask(2, 0), ask(2, 2)]
        self.assertEqual(asked(*shown, why(1, 3), why(3, 1))[5:], [[0, 2, 0, 2], [0, 2, 0, 2]])

    def test_ten_looks(self):
        shown = [ask(look, 9) for look in range(9)]
        self.assertEqual(asked(TEN, *shown, why(9, 0), why(9, 9), why(0, 9), why(0, 8))[10:],
                         [[0, 2, 0, 1, 2, 3, 4, 5, 6, 7, 8], [0, 0], [0, 1], [0, 0]])
        self.assertEqual(last(TEN, tell(9), why(0, 9)), [0, 2, 9])

    def test_asking_changes_nothing(self):
        shown = [STRAIGHT, tell(0), ask(2, 1)]
        self.assertEqual(asked(*shown, why(1, 0), why(2, 1), why(3, 3), *seen(4))[6:], asked(*shown, *seen(4))[3:])

    def test_no_such_look_or_kind(self):
        for look, kind in ((4, 0), (9, 0), (0, 4), (0, 9), (4, 4), (9, 9)):
            self.assertEqual(last(HOUSE, why(look, kind)), [-6], (look, kind))
        self.assertEqual(asked(one_sort([0]), why(1, 0), why(0, 1))[1:], [[-6], [-6]])

    def test_not_open(self):
        self.assertEqual(asked(why(0, 0), why(9, 9)), [[-2], [-2]])

    def test_out_of_range(self):
        for off in (-1, 10, BIG, -BIG):
            self.assertEqual(asked(why(off, 0), why(0, off), HOUSE, why(off, 0), why(0, off), why(off, 9), why(9, off)),
                             [[-1], [-1], [0], [-1], [-1], [-1], [-1]], off)


if __name__ == "__main__":
    unittest.main()

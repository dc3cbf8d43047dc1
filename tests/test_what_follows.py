"""possible, certain and count."""

import unittest

from tests.lines import BIG, ask, asked, certain, count, last, offer, one_sort, open_, outcomes, possible, tell, use

HOUSE = one_sort([2, 0, 3, 1])
# Used in situation 0, looks 0 and 1 have kinds 0 and 1 between them.
TWO_PAIRS = [one_sort([0, 1, 2, 3]), outcomes(0, [1, 1, 2, 2]), use(0, 0), use(1, 0)]


class WhatFollowsTest(unittest.TestCase):
    def test_nothing_shown(self):
        self.assertEqual(
            asked(HOUSE, possible(0), possible(3), certain(), count())[1:],
            [[0, 0, 1, 2, 3], [0, 0, 1, 2, 3], [0, -1, -1, -1, -1], [0, 24]],
        )

    def test_one_look_is_certain_at_once(self):
        self.assertEqual(asked(one_sort([0]), possible(0), certain(), count())[1:], [[0, 0], [0, 0], [0, 1]])

    def test_all_but_one_told_makes_the_last_certain(self):
        self.assertEqual(
            asked(HOUSE, tell(0), tell(1), tell(2), possible(3), certain(), count())[4:],
            [[0, 1], [0, 2, 0, 3, 1], [0, 1]],
        )

    def test_two_looks_with_two_kinds_rule_them_out_for_others(self):
        self.assertEqual(
            asked(*TWO_PAIRS, possible(0), possible(2), possible(3), certain(), count())[4:],
            [[0, 0, 1], [0, 2, 3], [0, 2, 3], [0, -1, -1, -1, -1], [0, 4]],
        )

    def test_two_looks_with_two_kinds_make_a_third_certain(self):
        self.assertEqual(
            asked(*TWO_PAIRS, ask(2, 3), possible(2), possible(3), certain(), count())[4:],
            [[0, 0], [0, 2], [0, 3], [0, -1, -1, 2, 3], [0, 2]],
        )

    def test_three_looks_with_three_kinds_no_two_of_them_alike(self):
        shown = [ask(0, 2), ask(0, 3), ask(1, 0), ask(1, 3), ask(2, 1), ask(2, 3)]
        self.assertEqual(
            asked(one_sort([0, 1, 2, 3]), *shown, possible(3), possible(0), certain(), count())[7:],
            [[0, 3], [0, 0, 1], [0, -1, -1, -1, 3], [0, 2]],
        )

    def test_a_kind_that_only_one_look_can_have(self):
        # Kind 3 is left for look 3 alone, so it's look 3's, though all kinds are left for it.
        shown = [ask(0, 3), ask(1, 3), ask(2, 3)]
        self.assertEqual(
            asked(one_sort([0, 1, 2, 3]), *shown, possible(3), certain(), count())[4:],
            [[0, 3], [0, -1, -1, -1, 3], [0, 6]],
        )

    def test_a_chain_from_look_to_look(self):
        truth = [0, 1, 2, 3, 4]
        shown = [ask(look, kind) for look in truth for kind in truth if kind > look]
        given = asked(one_sort(truth), *shown, certain(), count())
        self.assertEqual(given[-2:], [[0, 0, 1, 2, 3, 4], [0, 1]])

    def test_sorts_keep_apart(self):
        house = open_([0, 1, 2, 3, 4], [0, 0, 1, 1, 1], [0, 0, 1, 1, 1], [1] * 5)
        self.assertEqual(
            asked(house, count(), possible(1), possible(4), tell(0), certain(), count())[1:],
            [[0, 12], [0, 0, 1], [0, 2, 3, 4], [0, 0], [0, 0, 1, -1, -1, -1], [0, 6]],
        )

    def test_two_offers_alike_rule_out_by_what_is_left_for_others(self):
        house = one_sort([0, 1, 2], [133, 100, 500])
        self.assertEqual(
            asked(house, offer(0, 0), offer(1, 1), possible(0), possible(2), certain(), count())[1:],
            [[0, 133], [0, 133], [0, 0, 1], [0, 2], [0, -1, -1, 2], [0, 2]],
        )

    def test_certain_kind_0_is_not_taken_for_uncertain(self):
        self.assertEqual(asked(one_sort([1, 0, 2]), tell(1), certain())[1:], [[0, 0], [0, -1, 0, -1]])

    def test_ten_looks(self):
        truth = [3, 1, 4, 0, 5, 9, 2, 6, 8, 7]
        ten = one_sort(truth)
        self.assertEqual(
            asked(ten, possible(9), certain(), count())[1:],
            [[0] + list(range(10)), [0] + [-1] * 10, [0, 3628800]],
        )
        told = [tell(look) for look in range(8)]
        self.assertEqual(
            asked(ten, *told, certain(), count(), ask(8, 7), certain(), possible(9), count())[9:],
            [[0] + truth[:8] + [-1, -1], [0, 2], [0, 0], [0] + truth, [0, 7], [0, 1]],
        )

    def test_ten_looks_without_their_own_number(self):
        truth = [1, 2, 3, 4, 5, 6, 7, 8, 9, 0]
        shown = [ask(look, look) for look in range(10)]
        self.assertEqual(last(one_sort(truth), *shown, count()), [0, 1334961])

    def test_asking_changes_nothing(self):
        shown = [possible(0), possible(1), certain(), count()]
        given = asked(*TWO_PAIRS, *shown, *shown)
        self.assertEqual(given[4:8], given[8:])

    def test_no_such_look(self):
        for look in (4, 9):
            self.assertEqual(last(HOUSE, possible(look)), [-6])
        self.assertEqual(last(one_sort(list(range(10))), possible(9))[0], 0)

    def test_not_open(self):
        self.assertEqual(asked(possible(0), possible(9), certain(), count()), [[-2]] * 4)

    def test_out_of_range(self):
        for look in (-1, 10, BIG, -BIG):
            self.assertEqual(last(HOUSE, possible(look)), [-1], look)
            self.assertEqual(last(possible(look)), [-1], look)


if __name__ == "__main__":
    unittest.main()

import unittest

from tests.lines import BIG, ask, asked, count, last, odds, one_sort, open_, outcomes, seen, tell, try_look, use

HOUSE = one_sort([2, 0, 3, 1])
STRAIGHT = one_sort([0, 1, 2, 3])
TEN = one_sort(list(range(10)))


class TryTest(unittest.TestCase):
    def test_of_several_looks_the_first(self):
        self.assertEqual(last(HOUSE, outcomes(0, [1, 2, 3, 4]), try_look(0)), [0, 0, 6])
        self.assertEqual(last(HOUSE, outcomes(0, [1, 1, 2, 2]), try_look(0)), [0, 0, 12])
        # Look 0 leaves both pairings, looks 1 and 2 leave one each.
        self.assertEqual(last(one_sort([0, 1, 2]), tell(0), outcomes(0, [1, 2, 3]), try_look(0)), [0, 1, 1])

    def test_the_worst_outcome_counts(self):
        self.assertEqual(last(HOUSE, outcomes(0, [1, 2, 2, 2]), try_look(0)), [0, 0, 18])
        self.assertEqual(last(HOUSE, outcomes(0, [7, 7, 7, 7]), try_look(0)), [0, 0, 24])

    def test_the_worst_that_may_be_not_what_is_so(self):
        # Used, look 0 would bring outcome 1, and leave 6; but the outcome might be 2.
        house = one_sort([0, 1, 2, 3])
        told = outcomes(0, [1, 2, 2, 2])
        self.assertEqual(asked(house, told, try_look(0), use(0, 0), count())[2:], [[0, 0, 18], [0, 1], [0, 6]])

    def test_a_later_look_that_leaves_fewer(self):
        house = open_([0, 1, 2, 3, 4], [0, 0, 1, 1, 1], [0, 0, 1, 1, 1], [1] * 5)
        self.assertEqual(last(house, outcomes(0, [5, 5, 6, 7, 8]), try_look(0)), [0, 2, 4])
        self.assertEqual(last(house, outcomes(0, [4, 5, 6, 6, 6]), try_look(0)), [0, 0, 6])

    def test_looks_that_can_bring_one_outcome_only_are_passed_over(self):
        # 12 pairings fit. Looks 0 and 1 bring outcome 1 in all of them, look 2 in half of them.
        shown = [ask(0, 3), ask(1, 3)]
        self.assertEqual(last(STRAIGHT, *shown, outcomes(0, [1, 1, 1, 2]), try_look(0)), [0, 2, 6])
        # 4 pairings fit: looks 0 and 1 share kinds 0 and 1, looks 2 and 3 the others.
        shown = [ask(0, 2), ask(1, 2), ask(0, 3), ask(1, 3), ask(2, 0), ask(3, 0)]
        self.assertEqual(last(STRAIGHT, *shown, outcomes(0, [1, 1, 2, 3]), try_look(0)), [0, 2, 2])

    def test_outcomes_that_the_look_cannot_have_any_more(self):
        # Kind 0 is left for looks 1 to 3, but it's look 0's. By what's left, outcome 5 would seem half of it.
        shown = [STRAIGHT, tell(0), outcomes(0, [5, 5, 6, 7])]
        self.assertEqual(asked(*shown, try_look(0))[3:], [[0, 1, 2]])
        # Looks 0 and 1 have kinds 0 and 1, so looks 2 and 3 bring one outcome, whichever kinds they are.
        shown = [STRAIGHT, outcomes(1, [1, 1, 2, 2]), use(0, 1), use(1, 1), outcomes(0, [1, 2, 3, 3])]
        self.assertEqual(asked(*shown, try_look(0))[5:], [[0, 0, 2]])
        shown[-1] = outcomes(0, [3, 3, 1, 2])
        self.assertEqual(asked(*shown, try_look(0))[5:], [[0, 2, 2]])

    def test_all_looks_certain(self):
        self.assertEqual(asked(one_sort([1, 0]), outcomes(0, [1, 2]), tell(0), try_look(0))[3:], [[0, 0, 1]])
        self.assertEqual(last(one_sort([0]), outcomes(0, [9]), try_look(0)), [0, 0, 1])

    def test_each_situation_by_its_own_outcomes(self):
        shown = [HOUSE, outcomes(0, [1, 2, 3, 4]), outcomes(7, [0, 0, 0, 9])]
        self.assertEqual(asked(*shown, try_look(7), try_look(0))[3:], [[0, 0, 18], [0, 0, 6]])

    def test_ten_looks(self):
        self.assertEqual(last(TEN, outcomes(0, list(range(10))), try_look(0)), [0, 0, 362880])
        self.assertEqual(last(TEN, outcomes(0, [3] * 10), try_look(0)), [0, 0, 3628800])
        told = [tell(look) for look in range(8)]
        self.assertEqual(last(TEN, *told, outcomes(0, list(range(10))), try_look(0)), [0, 8, 1])

    def test_asking_changes_nothing(self):
        shown = [HOUSE, outcomes(0, [1, 2, 3, 4])]
        self.assertEqual(asked(*shown, try_look(0), try_look(0), *seen(4))[3:],
                         [[0, 0, 6]] + asked(*shown, *seen(4))[2:])

    def test_nothing_told_for_the_situation(self):
        self.assertEqual(last(HOUSE, try_look(0)), [-5])
        self.assertEqual(asked(HOUSE, outcomes(0, [1, 2, 3, 4]), try_look(1), try_look(7))[2:], [[-5], [-5]])
        self.assertEqual(last(HOUSE, outcomes(0, [1, 2, 3]), try_look(0)), [-5])
        self.assertEqual(last(HOUSE, outcomes(0, [1, 2, 3, 10]), try_look(0)), [-5])
        self.assertEqual(last(outcomes(0, [1, 2, 3, 4]), HOUSE, try_look(0)), [-5])

    def test_not_open(self):
        self.assertEqual(asked(try_look(0), try_look(7)), [[-2], [-2]])

    def test_out_of_range(self):
        for situation in (-1, 8, 9, 10, BIG, -BIG):
            self.assertEqual(last(try_look(situation)), [-1], situation)
            self.assertEqual(last(HOUSE, outcomes(0, [1, 2, 3, 4]), try_look(situation)), [-1], situation)
        self.assertEqual(last(HOUSE, outcomes(7, [1, 2, 3, 4]), try_look(7)), [0, 0, 6])


class OddsTest(unittest.TestCase):
    def test_lowest_terms(self):
        # 6 of 24.
        self.assertEqual(last(HOUSE, odds(0, 3)), [0, 1, 4])
        # Of 18 pairings 6 give look 1 the kind that look 0 isn't, 4 give it any other.
        self.assertEqual(asked(STRAIGHT, ask(0, 1), count(), odds(0, 0), odds(1, 1), odds(1, 0), odds(3, 3))[2:],
                         [[0, 18], [0, 1, 3], [0, 1, 3], [0, 2, 9], [0, 2, 9]])

    def test_more_than_half(self):
        # 3 pairings fit: 0 1 2, 0 2 1 and 1 2 0.
        shown = [one_sort([0, 1, 2]), ask(0, 2), ask(1, 0)]
        self.assertEqual(asked(*shown, count(), odds(0, 0), odds(0, 1), odds(1, 2), odds(2, 0))[3:],
                         [[0, 3], [0, 2, 3], [0, 1, 3], [0, 2, 3], [0, 1, 3]])

    def test_none(self):
        self.assertEqual(asked(STRAIGHT, ask(0, 1), odds(0, 1))[2:], [[0, 0, 1]])
        # Left for the look, but not possible.
        self.assertEqual(asked(STRAIGHT, tell(0), odds(1, 0))[2:], [[0, 0, 1]])
        self.assertEqual(last(open_([0, 1], [0, 1], [0, 1], [1, 1]), odds(0, 1)), [0, 0, 1])

    def test_certain(self):
        self.assertEqual(asked(STRAIGHT, tell(0), odds(0, 0))[2:], [[0, 1, 1]])
        self.assertEqual(last(one_sort([0]), odds(0, 0)), [0, 1, 1])
        # Kind 3 is left for look 3 alone.
        self.assertEqual(last(STRAIGHT, ask(0, 3), ask(1, 3), ask(2, 3), odds(3, 3)), [0, 1, 1])

    def test_ten_looks(self):
        self.assertEqual(asked(TEN, odds(0, 9), odds(9, 0))[1:], [[0, 1, 10], [0, 1, 10]])
        truth = [1, 2, 3, 4, 5, 6, 7, 8, 9, 0]
        shown = [ask(look, look) for look in range(10)]
        self.assertEqual(asked(one_sort(truth), *shown, odds(0, 1), odds(9, 9))[11:], [[0, 1, 9], [0, 0, 1]])
        # 1468457 pairings give none of the looks 0 to 8 its own number; of them 133496 give look 9 its own.
        self.assertEqual(asked(one_sort(truth), *shown[:9], odds(9, 9))[10:], [[0, 133496, 1468457]])

    def test_asking_changes_nothing(self):
        shown = [STRAIGHT, tell(0), ask(2, 1)]
        self.assertEqual(asked(*shown, odds(1, 0), odds(2, 2), *seen(4))[5:], asked(*shown, *seen(4))[3:])

    def test_no_such_look_or_kind(self):
        for look, kind in ((4, 0), (9, 0), (0, 4), (0, 9), (4, 4), (9, 9)):
            self.assertEqual(last(HOUSE, odds(look, kind)), [-6], (look, kind))
        self.assertEqual(last(HOUSE, odds(3, 3)), [0, 1, 4])

    def test_not_open(self):
        self.assertEqual(asked(odds(0, 0), odds(9, 9)), [[-2], [-2]])

    def test_out_of_range(self):
        for off in (-1, 10, BIG, -BIG):
            self.assertEqual(
                asked(odds(off, 0), odds(0, off), HOUSE, odds(off, 0), odds(0, off), odds(off, 9), odds(9, off)),
                [[-1], [-1], [0], [-1], [-1], [-1], [-1]], off)


if __name__ == "__main__":
    unittest.main()

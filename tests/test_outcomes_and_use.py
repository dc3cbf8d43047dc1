import unittest

from tests.lines import BIG, asked, certain, count, last, one_sort, open_, outcomes, possible, seen, tell, use

HOUSE = one_sort([2, 0, 3, 1])


class OutcomesTest(unittest.TestCase):
    def test_answers_nothing_more_and_shows_nothing(self):
        self.assertEqual(asked(HOUSE, outcomes(0, [1, 2, 3, 4]), count()), [[0], [0], [0, 24]])

    def test_each_situation_has_its_own_outcomes(self):
        self.assertEqual(
            asked(HOUSE, outcomes(0, [1, 2, 3, 4]), outcomes(7, [0, 0, 9, 9]), use(0, 0), use(0, 7))[3:],
            [[0, 3], [0, 9]],
        )

    def test_told_already(self):
        row = [1, 2, 3, 4]
        self.assertEqual(asked(HOUSE, outcomes(3, row), outcomes(3, row)), [[0], [0], [-5]])
        self.assertEqual(asked(HOUSE, outcomes(3, row), outcomes(3, [9, 9, 9, 9]), use(0, 3))[2:], [[-5], [0, 3]])

    def test_fewer_or_more_numbers_than_kinds(self):
        for row in ([], [1], [1, 1, 1], [1, 1, 1, 1, 1], [1] * 10):
            self.assertEqual(asked(HOUSE, outcomes(0, row), use(0, 0))[1:], [[-4], [-5]], row)

    def test_told_already_comes_before_a_row_of_another_length(self):
        self.assertEqual(last(HOUSE, outcomes(0, [1, 1, 1, 1]), outcomes(0, [])), [-5])
        self.assertEqual(last(HOUSE, outcomes(0, [1, 1, 1, 1]), outcomes(0, [1] * 5)), [-5])

    def test_a_refused_row_is_not_told(self):
        self.assertEqual(
            asked(HOUSE, outcomes(0, [1]), outcomes(0, [1, 2, 3, 10]), outcomes(0, [4, 3, 2, 1]), use(0, 0))[1:],
            [[-4], [-1], [0], [0, 2]],
        )

    def test_not_open(self):
        self.assertEqual(asked(outcomes(0, [1]), outcomes(0, []), one_sort([0]), use(0, 0)), [[-2], [-2], [0], [-5]])

    def test_situations_within_and_without(self):
        for situation in (0, 7):
            self.assertEqual(last(HOUSE, outcomes(situation, [0, 9, 0, 9])), [0])
        for situation in (-1, 8, BIG, -BIG):
            self.assertEqual(last(HOUSE, outcomes(situation, [0, 9, 0, 9])), [-1], situation)
            self.assertEqual(last(outcomes(situation, [0, 9, 0, 9])), [-1], situation)

    def test_outcomes_without_their_range(self):
        for at in range(4):
            for off in (-1, 10, BIG, -BIG):
                row = [0, 9, 0, 9]
                row[at] = off
                self.assertEqual(last(HOUSE, outcomes(0, row)), [-1], row)

    def test_row_lengths(self):
        ten = one_sort(list(range(10)))
        self.assertEqual(last(ten, outcomes(0, list(range(10)))), [0])
        for length, answer in ((0, -4), (9, -4), (11, -1), (100, -1)):
            self.assertEqual(last(ten, outcomes(0, [0] * length)), [answer], length)

    def test_out_of_range_comes_first(self):
        self.assertEqual(last(outcomes(0, [0] * 11)), [-1])
        self.assertEqual(last(outcomes(0, [10])), [-1])
        told = outcomes(0, [1, 1, 1, 1])
        self.assertEqual(last(HOUSE, told, outcomes(0, [0] * 11)), [-1])
        self.assertEqual(last(HOUSE, told, outcomes(0, [10])), [-1])


class UseTest(unittest.TestCase):
    def test_answers_the_outcome_of_the_looks_kind(self):
        calls = [HOUSE, outcomes(1, [5, 6, 7, 8])] + [use(look, 1) for look in range(4)]
        self.assertEqual(asked(*calls)[2:], [[0, 7], [0, 5], [0, 8], [0, 6]])

    def test_kinds_with_this_outcome_stay(self):
        self.assertEqual(
            asked(HOUSE, outcomes(1, [4, 0, 4, 4]), use(0, 1), possible(0), count())[2:],
            [[0, 4], [0, 0, 2, 3], [0, 18]],
        )

    def test_nothing_comes_back(self):
        self.assertEqual(
            asked(HOUSE, outcomes(1, [4, 0, 4, 0]), outcomes(2, [3, 3, 3, 0]), use(0, 1), use(0, 2), possible(0))[3:],
            [[0, 4], [0, 3], [0, 0, 2]],
        )

    def test_only_the_kinds_of_the_looks_sort_stay(self):
        house = open_([0, 1, 2, 3], [0, 0, 1, 1], [0, 0, 1, 1], [1, 1, 1, 1])
        told = outcomes(0, [5, 5, 5, 5])
        self.assertEqual(
            asked(house, told, use(0, 0), use(2, 0), possible(0), possible(2), count())[2:],
            [[0, 5], [0, 5], [0, 0, 1], [0, 2, 3], [0, 4]],
        )

    def test_outcomes_0_and_9(self):
        self.assertEqual(asked(one_sort([0]), outcomes(0, [0]), use(0, 0))[2:], [[0, 0]])
        self.assertEqual(asked(one_sort([0]), outcomes(0, [9]), use(0, 0))[2:], [[0, 9]])

    def test_no_such_look(self):
        told = outcomes(0, [1, 2, 3, 4])
        for look in (4, 9):
            self.assertEqual(asked(HOUSE, told, use(look, 0), *seen(4))[2:],
                             [[-6]] + asked(HOUSE, *seen(4))[1:], look)

    def test_no_such_look_comes_before_nothing_told(self):
        self.assertEqual(last(HOUSE, use(4, 0)), [-6])

    def test_nothing_told(self):
        self.assertEqual(last(HOUSE, use(0, 0)), [-5])
        self.assertEqual(asked(HOUSE, outcomes(0, [1, 2, 3, 4]), use(0, 1), *seen(4))[2:],
                         [[-5]] + asked(HOUSE, *seen(4))[1:])

    def test_not_open(self):
        self.assertEqual(asked(use(0, 0), use(9, 7)), [[-2], [-2]])

    def test_out_of_range(self):
        told = outcomes(0, [1, 2, 3, 4])
        for look in (-1, 10, BIG, -BIG):
            self.assertEqual(last(HOUSE, told, use(look, 0)), [-1], look)
            self.assertEqual(last(use(look, 0)), [-1], look)
        for situation in (-1, 8, BIG, -BIG):
            self.assertEqual(last(HOUSE, told, use(0, situation)), [-1], situation)
            self.assertEqual(last(HOUSE, told, use(9, situation)), [-1], situation)
            self.assertEqual(last(use(0, situation)), [-1], situation)

    def test_a_look_is_still_used_when_it_is_certain(self):
        self.assertEqual(
            asked(HOUSE, tell(0), outcomes(0, [1, 2, 3, 4]), use(0, 0), certain())[1:],
            [[0, 2], [0], [0, 3], [0, 2, -1, -1, -1]],
        )


if __name__ == "__main__":
    unittest.main()

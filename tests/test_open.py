import unittest

from tests.lines import BIG, asked, certain, count, last, one_sort, open_, possible


class OpenTest(unittest.TestCase):
    def test_answers_nothing_more(self):
        self.assertEqual(asked(open_([1, 0], [3, 2], [2, 3], [5, 6])), [[0]])

    def test_one_look(self):
        self.assertEqual(asked(open_([0], [5], [5], [1000000]), certain(), count()), [[0], [0, 0], [0, 1]])

    def test_ten_looks(self):
        truth = [9, 8, 7, 6, 5, 4, 3, 2, 1, 0]
        self.assertEqual(asked(one_sort(truth), count()), [[0], [0, 3628800]])

    def test_at_first_all_kinds_of_the_looks_sort_are_left(self):
        house = open_([2, 1, 0, 3], [0, 4, 0, 4], [0, 4, 0, 4], [1, 2, 3, 4])
        self.assertEqual(
            asked(house, possible(0), possible(1), possible(2), possible(3), count()),
            [[0], [0, 0, 2], [0, 1, 3], [0, 0, 2], [0, 1, 3], [0, 4]],
        )

    def test_looks_sorts_are_by_look_and_kinds_sorts_by_kind(self):
        house = open_([1, 2, 0], [1, 2, 0], [0, 1, 2], [1, 1, 1])
        self.assertEqual(asked(house, certain()), [[0], [0, 1, 2, 0]])

    def test_open_already(self):
        house = one_sort([1, 0])
        self.assertEqual(asked(house, house, count()), [[0], [-3], [0, 2]])
        self.assertEqual(asked(house, one_sort([0, 1, 2]), count()), [[0], [-3], [0, 2]])

    def test_open_already_comes_before_wrong_rows(self):
        self.assertEqual(last(one_sort([0]), open_([], [], [], [])), [-3])
        self.assertEqual(last(one_sort([0]), open_([1], [0], [0], [1])), [-3])
        self.assertEqual(last(one_sort([0]), open_([0], [1], [0], [1])), [-3])

    def test_first_row_is_empty(self):
        self.assertEqual(last(open_([], [], [], [])), [-4])
        self.assertEqual(last(open_([], [0], [0], [1])), [-4])

    def test_first_row_is_no_pairing(self):
        for truth in ([1], [9], [0, 0], [1, 1], [0, 2], [1, 2], [0, 1, 1], [0, 1, 3]):
            self.assertEqual(last(one_sort(truth)), [-4], truth)

    def test_rows_of_other_lengths(self):
        self.assertEqual(last(open_([0, 1], [0], [0, 0], [1, 1])), [-4])
        self.assertEqual(last(open_([0, 1], [0, 0, 0], [0, 0], [1, 1])), [-4])
        self.assertEqual(last(open_([0, 1], [0, 0], [0], [1, 1])), [-4])
        self.assertEqual(last(open_([0, 1], [0, 0], [0, 0, 0], [1, 1])), [-4])
        self.assertEqual(last(open_([0, 1], [0, 0], [0, 0], [1])), [-4])
        self.assertEqual(last(open_([0, 1], [0, 0], [0, 0], [1, 1, 1])), [-4])
        self.assertEqual(last(open_([0], [], [], [])), [-4])

    def test_a_looks_sort_is_not_its_kinds(self):
        self.assertEqual(last(open_([0], [0], [1], [1])), [-4])
        self.assertEqual(last(open_([1, 0], [0, 1], [0, 1], [1, 1])), [-4])
        self.assertEqual(last(open_([0, 1, 2], [0, 1, 2], [0, 1, 3], [1, 1, 1])), [-4])

    def test_a_refused_open_opens_nothing(self):
        wrong = (open_([], [], [], []), open_([0], [0], [1], [1]), open_([0, 1], [0, 0], [0, 0], [1]))
        for call in wrong:
            self.assertEqual(asked(call, count(), one_sort([0]), count()), [[-4], [-2], [0], [0, 1]])
        self.assertEqual(asked(open_([0], [0], [0], [0]), count(), one_sort([0])), [[-1], [-2], [0]])

    def test_just_within_the_ranges(self):
        self.assertEqual(last(open_([0, 1], [0, 5], [0, 5], [1, 1000000])), [0])

    def test_just_without_the_ranges(self):
        for off in (-1, 10, BIG, -BIG):
            self.assertEqual(last(open_([off], [0], [0], [1])), [-1], off)
        for off in (-1, 6, BIG, -BIG):
            self.assertEqual(last(open_([0], [off], [0], [1])), [-1], off)
            self.assertEqual(last(open_([0], [0], [off], [1])), [-1], off)
        for off in (0, -1, 1000001, BIG, -BIG):
            self.assertEqual(last(open_([0], [0], [0], [off])), [-1], off)

    def test_a_number_off_at_any_place_of_a_row(self):
        for at in range(3):
            for which in range(4):
                rows = [[0, 1, 2], [0, 0, 0], [0, 0, 0], [1, 1, 1]]
                rows[which][at] = -1
                self.assertEqual(last(open_(*rows)), [-1], rows)

    def test_a_kind_within_0_to_9_but_past_the_last_is_no_pairing(self):
        self.assertEqual(last(open_([9], [0], [0], [1])), [-4])

    def test_row_lengths_within_and_without(self):
        for which in range(4):
            for length, answer in ((0, -4), (9, -4), (11, -1), (100, -1)):
                rows = [list(range(10)), [0] * 10, [0] * 10, [1] * 10]
                rows[which] = ([1] * length) if which == 3 else ([0] * length)
                self.assertEqual(last(open_(*rows)), [answer], (which, length))
        self.assertEqual(last(open_(list(range(10)), [0] * 10, [0] * 10, [1] * 10)), [0])

    def test_all_rows_of_eleven_are_off(self):
        self.assertEqual(last(open_(list(range(10)) + [0], [0] * 11, [0] * 11, [1] * 11)), [-1])

    def test_out_of_range_comes_before_open_already_and_wrong_rows(self):
        self.assertEqual(last(one_sort([0]), open_([0], [0], [0], [0])), [-1])
        self.assertEqual(last(one_sort([0]), open_([], [], [], [0])), [-1])
        self.assertEqual(last(open_([], [], [], [0])), [-1])
        self.assertEqual(last(open_([1], [6], [0], [1])), [-1])


if __name__ == "__main__":
    unittest.main()

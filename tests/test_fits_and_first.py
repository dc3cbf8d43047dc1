import unittest
from itertools import permutations

from tests.lines import BIG, ask, asked, count, first, fits, last, one_sort, open_, outcomes, seen, tell, use

HOUSE = one_sort([2, 0, 3, 1])
STRAIGHT = one_sort([0, 1, 2, 3])
TEN = one_sort(list(range(10)))


class FitsTest(unittest.TestCase):
    def test_a_pairing_that_fits(self):
        self.assertEqual(asked(HOUSE, fits([2, 0, 3, 1]), fits([0, 1, 2, 3]), fits([3, 2, 1, 0]))[1:],
                         [[0, 1], [0, 1], [0, 1]])

    def test_a_pairing_that_does_not_fit(self):
        self.assertEqual(
            asked(HOUSE, ask(0, 1), fits([1, 0, 2, 3]), fits([2, 1, 3, 0]), tell(3), fits([2, 1, 3, 0]),
                  fits([0, 2, 3, 1]))[2:],
            [[0, 0], [0, 1], [0, 1], [0, 0], [0, 1]],
        )
        house = open_([0, 1], [0, 1], [0, 1], [1, 1])
        self.assertEqual(asked(house, fits([0, 1]), fits([1, 0]))[1:], [[0, 1], [0, 0]])

    def test_the_truth_always_fits(self):
        shown = [outcomes(0, [1, 2, 1, 2]), use(0, 0), ask(1, 3), tell(2)]
        for how_many in range(5):
            self.assertEqual(last(HOUSE, *shown[:how_many], fits([2, 0, 3, 1])), [0, 1])

    def test_as_many_rows_fit_as_are_counted(self):
        shown = [STRAIGHT, ask(0, 1), ask(1, 0), ask(2, 3)]
        given = asked(*shown, count(), *[fits(list(row)) for row in permutations(range(4))])
        self.assertEqual(given[4], [0, sum(answer[1] for answer in given[5:])])

    def test_a_row_that_is_no_pairing(self):
        for row in ([0, 0, 1, 2], [3, 3, 3, 3], [0, 1, 2, 2], [0, 1, 2, 4], [1, 2, 3, 4], [9, 9, 9, 9], [2, 0, 3, 9]):
            self.assertEqual(last(HOUSE, fits(row)), [0, 0], row)

    def test_a_row_of_another_length(self):
        for row in ([], [2], [2, 0, 3], [0, 1, 2], [2, 0, 3, 1, 4], [0, 1, 2, 3, 4], [2, 0, 3, 1, 1],
                    list(range(10)), [0] * 10):
            self.assertEqual(last(HOUSE, fits(row)), [0, 0], row)

    def test_the_empty_row(self):
        self.assertEqual(asked(fits([]), one_sort([0]), fits([]), fits([0])), [[-2], [0], [0, 0], [0, 1]])

    def test_one_look(self):
        self.assertEqual(asked(one_sort([0]), fits([0]), fits([1]), fits([9]), fits([0, 0]), fits([0, 1]))[1:],
                         [[0, 1], [0, 0], [0, 0], [0, 0], [0, 0]])

    def test_ten_looks_and_row_lengths(self):
        self.assertEqual(asked(TEN, fits([9, 8, 7, 6, 5, 4, 3, 2, 1, 0]), fits([0] * 10), fits(list(range(9))))[1:],
                         [[0, 1], [0, 0], [0, 0]])
        for length, answer in ((0, [0, 0]), (10, [0, 0]), (11, [-1]), (100, [-1])):
            self.assertEqual(last(TEN, fits([1] * length)), answer, length)
        self.assertEqual(last(TEN, fits(list(range(10)) + [0])), [-1])

    def test_the_calls_behind_a_long_row_are_read(self):
        self.assertEqual(asked(HOUSE, fits([8] * 100), count(), fits([]), count())[1:],
                         [[-1], [0, 24], [0, 0], [0, 24]])

    def test_numbers_out_of_range(self):
        for off in (-1, 10, BIG, -BIG):
            for at in range(4):
                row = [2, 0, 3, 1]
                row[at] = off
                self.assertEqual(asked(fits(row), HOUSE, fits(row)), [[-1], [0], [-1]], row)
            self.assertEqual(last(HOUSE, fits([off])), [-1])
            self.assertEqual(last(HOUSE, fits([0] * 9 + [off])), [-1])

    def test_not_open(self):
        self.assertEqual(asked(fits([0]), fits([9] * 10), fits([9] * 11)), [[-2], [-2], [-1]])

    def test_asking_changes_nothing(self):
        shown = [STRAIGHT, tell(0), ask(2, 1)]
        self.assertEqual(asked(*shown, fits([0, 1, 2, 3]), fits([0]), *seen(4))[5:], asked(*shown, *seen(4))[3:])


class FirstTest(unittest.TestCase):
    def test_all_kinds_left(self):
        self.assertEqual(last(HOUSE, first()), [0, 0, 1, 2, 3])
        self.assertEqual(last(one_sort([0]), first()), [0, 0])
        self.assertEqual(last(one_sort([9, 8, 7, 6, 5, 4, 3, 2, 1, 0]), first()), [0, 0, 1, 2, 3, 4, 5, 6, 7, 8, 9])

    def test_the_least_kind_left_is_not_possible(self):
        # Kind 0 is left for look 0, but look 1 was told to be it.
        self.assertEqual(last(one_sort([1, 0, 2]), tell(1), first()), [0, 1, 0, 2])
        # Looks 1 and 2 have kinds 0 and 1.
        self.assertEqual(last(one_sort([2, 0, 1]), ask(1, 2), ask(2, 2), first()), [0, 2, 0, 1])

    def test_a_kind_possible_by_itself_but_not_with_those_before(self):
        # Look 3 is kind 0 or 1: when look 0 has taken 0, look 1 can't take 1.
        self.assertEqual(last(one_sort([3, 2, 0, 1]), ask(3, 2), ask(3, 3), first()), [0, 0, 2, 3, 1])

    def test_the_first_look_comes_first(self):
        # 0 3 2 1 and 1 3 2 0 and others fit: look 0's kind is the least, whatever the others then have.
        shown = [ask(1, 0), ask(1, 1), ask(1, 2)]
        self.assertEqual(last(one_sort([1, 3, 0, 2]), *shown, first()), [0, 0, 3, 1, 2])
        # Look 0 is 0 only if look 1 is 2; still that's the first.
        shown = [ask(0, 1), ask(1, 1), ask(2, 2)]
        self.assertEqual(last(one_sort([2, 0, 1]), *shown, first()), [0, 0, 2, 1])

    def test_all_certain(self):
        told = [tell(look) for look in range(3)]
        self.assertEqual(last(HOUSE, *told, first()), [0, 2, 0, 3, 1])

    def test_sorts(self):
        house = open_([3, 2, 1, 0], [0, 1, 1, 0], [0, 1, 1, 0], [1, 1, 1, 1])
        self.assertEqual(last(house, first()), [0, 0, 1, 2, 3])
        house = open_([3, 2, 0, 1], [1, 0, 0, 1], [0, 1, 0, 1], [1, 1, 1, 1])
        self.assertEqual(last(house, first()), [0, 1, 0, 2, 3])

    def test_ten_looks(self):
        truth = [1, 2, 3, 4, 5, 6, 7, 8, 9, 0]
        shown = [ask(look, look) for look in range(10)]
        self.assertEqual(last(one_sort(truth), *shown, first()), [0, 1, 0, 3, 2, 5, 4, 7, 6, 9, 8])
        self.assertEqual(last(one_sort(truth), tell(9), first()), [0, 1, 2, 3, 4, 5, 6, 7, 8, 9, 0])

    def test_it_fits_and_nothing_before_it_does(self):
        shown = [one_sort([4, 2, 0, 1, 3]), ask(0, 0), ask(1, 1), ask(4, 4), ask(4, 0), ask(3, 2), ask(2, 1)]
        row = last(*shown, first())[1:]
        rows = [list(pairing) for pairing in permutations(range(5))]
        earlier = rows[:rows.index(row)]
        self.assertEqual(asked(*shown, fits(row), *[fits(other) for other in earlier])[7:],
                         [[0, 1]] + [[0, 0]] * len(earlier))

    def test_asking_changes_nothing(self):
        shown = [STRAIGHT, tell(0), ask(2, 1)]
        self.assertEqual(asked(*shown, first(), first(), *seen(4))[5:], asked(*shown, *seen(4))[3:])

    def test_not_open(self):
        self.assertEqual(asked(first()), [[-2]])


if __name__ == "__main__":
    unittest.main()

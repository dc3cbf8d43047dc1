import unittest

from tests.lines import BIG, ask, asked, certain, count, last, offer, one_sort, open_, possible, seen, tell

HOUSE = one_sort([2, 0, 3, 1])


class OfferTest(unittest.TestCase):
    def test_price_and_dearer_price(self):
        house = one_sort([1, 0], [30, 60])
        self.assertEqual(asked(house, offer(0, 0), offer(0, 1), offer(1, 0), offer(1, 1))[1:],
                         [[0, 60], [0, 80], [0, 30], [0, 40]])

    def test_the_third_is_rounded_down(self):
        for price, dearer in ((1, 1), (2, 2), (3, 4), (4, 5), (5, 6), (6, 8), (100, 133), (1000000, 1333333),
                              (999999, 1333332), (999998, 1333330)):
            house = one_sort([0], [price])
            self.assertEqual(asked(house, offer(0, 0), offer(0, 1))[1:], [[0, price], [0, dearer]])

    def test_both_prices_are_looked_at_when_dear_is_0(self):
        # 133 is kind 0's price, and kind 1's dearer price.
        house = one_sort([0, 1, 2], [133, 100, 101])
        self.assertEqual(asked(house, offer(0, 0), possible(0))[1:], [[0, 133], [0, 0, 1]])

    def test_both_prices_are_looked_at_when_dear_is_1(self):
        house = one_sort([0, 1, 2], [100, 133, 99])
        self.assertEqual(asked(house, offer(0, 1), possible(0))[1:], [[0, 133], [0, 0, 1]])

    def test_same_price_and_same_dearer_price_stay(self):
        house = one_sort([0, 1, 2, 3], [7, 7, 9, 8])
        self.assertEqual(asked(house, offer(0, 0), possible(0))[1:], [[0, 7], [0, 0, 1]])
        self.assertEqual(asked(house, offer(0, 1), possible(0))[1:], [[0, 9], [0, 0, 1, 2]])

    def test_different_prices_have_different_dearer_prices(self):
        house = one_sort([0, 1, 2, 3], [2, 3, 4, 5])
        self.assertEqual(asked(house, offer(0, 1), possible(0))[1:], [[0, 2], [0, 0]])
        self.assertEqual(asked(house, offer(1, 1), possible(1))[1:], [[0, 4], [0, 1, 2]])
        self.assertEqual(asked(house, offer(3, 0), possible(3))[1:], [[0, 5], [0, 2, 3]])

    def test_a_price_whose_dearer_price_is_the_same(self):
        house = one_sort([0, 1, 2], [1, 2, 1])
        self.assertEqual(asked(house, offer(0, 1), possible(0))[1:], [[0, 1], [0, 0, 2]])

    def test_offers_together(self):
        # Each offer alone leaves two kinds; both together leave one.
        house = one_sort([0, 1, 2], [100, 133, 75])
        self.assertEqual(
            asked(house, offer(0, 1), possible(0), offer(0, 0), possible(0))[1:],
            [[0, 133], [0, 0, 1], [0, 100], [0, 0]],
        )

    def test_no_such_look(self):
        for look in (4, 9):
            for dear in (0, 1):
                self.assertEqual(asked(HOUSE, offer(look, dear), *seen(4))[1:],
                                 [[-6]] + asked(HOUSE, *seen(4))[1:])

    def test_not_open(self):
        self.assertEqual(asked(offer(0, 0), offer(9, 1)), [[-2], [-2]])

    def test_out_of_range(self):
        for look in (-1, 10, BIG, -BIG):
            self.assertEqual(last(HOUSE, offer(look, 0)), [-1], look)
            self.assertEqual(last(offer(look, 0)), [-1], look)
        for dear in (-1, 2, BIG, -BIG):
            self.assertEqual(last(HOUSE, offer(0, dear)), [-1], dear)
            self.assertEqual(last(HOUSE, offer(9, dear)), [-1], dear)
            self.assertEqual(last(offer(0, dear)), [-1], dear)


class TellTest(unittest.TestCase):
    def test_answers_the_kind(self):
        calls = [HOUSE] + [tell(look) for look in range(4)]
        self.assertEqual(asked(*calls)[1:], [[0, 2], [0, 0], [0, 3], [0, 1]])

    def test_just_this_kind_stays(self):
        self.assertEqual(
            asked(HOUSE, tell(0), possible(0), possible(1), certain(), count())[1:],
            [[0, 2], [0, 2], [0, 0, 1, 3], [0, 2, -1, -1, -1], [0, 6]],
        )

    def test_told_twice(self):
        self.assertEqual(asked(HOUSE, tell(0), tell(0), count())[1:], [[0, 2], [0, 2], [0, 6]])

    def test_no_such_look(self):
        for look in (4, 9):
            self.assertEqual(asked(HOUSE, tell(look), *seen(4))[1:], [[-6]] + asked(HOUSE, *seen(4))[1:])
        self.assertEqual(asked(one_sort([0]), tell(1), tell(0))[1:], [[-6], [0, 0]])

    def test_the_last_of_ten_looks(self):
        self.assertEqual(last(one_sort(list(range(9, -1, -1))), tell(9)), [0, 0])

    def test_not_open(self):
        self.assertEqual(asked(tell(0), tell(9)), [[-2], [-2]])

    def test_out_of_range(self):
        for look in (-1, 10, BIG, -BIG):
            self.assertEqual(last(HOUSE, tell(look)), [-1], look)
            self.assertEqual(last(tell(look)), [-1], look)


class AskTest(unittest.TestCase):
    def test_yes(self):
        self.assertEqual(asked(HOUSE, ask(0, 2), possible(0), count())[1:], [[0, 1], [0, 2], [0, 6]])

    def test_no(self):
        self.assertEqual(asked(HOUSE, ask(0, 0), possible(0), count())[1:], [[0, 0], [0, 1, 2, 3], [0, 18]])

    def test_no_until_one_is_left(self):
        self.assertEqual(
            asked(HOUSE, ask(0, 0), ask(0, 1), ask(0, 3), certain())[1:],
            [[0, 0], [0, 0], [0, 0], [0, 2, -1, -1, -1]],
        )

    def test_a_kind_that_is_not_left(self):
        self.assertEqual(
            asked(HOUSE, ask(0, 1), ask(0, 1), possible(0), tell(0), ask(0, 3), possible(0))[1:],
            [[0, 0], [0, 0], [0, 0, 2, 3], [0, 2], [0, 0], [0, 2]],
        )

    def test_a_kind_of_another_sort(self):
        house = open_([0, 1, 2], [0, 0, 5], [0, 0, 5], [1, 1, 1])
        self.assertEqual(asked(house, ask(0, 2), possible(0))[1:], [[0, 0], [0, 0, 1]])

    def test_no_such_look_or_kind(self):
        for look, kind in ((4, 0), (0, 4), (4, 4), (9, 0), (0, 9), (9, 9)):
            self.assertEqual(asked(HOUSE, ask(look, kind), *seen(4))[1:], [[-6]] + asked(HOUSE, *seen(4))[1:])

    def test_not_open(self):
        self.assertEqual(asked(ask(0, 0), ask(9, 9)), [[-2], [-2]])

    def test_out_of_range(self):
        for off in (-1, 10, BIG, -BIG):
            for look, kind in ((off, 0), (0, off), (off, off), (9, off), (off, 9)):
                self.assertEqual(last(HOUSE, ask(look, kind)), [-1], (look, kind))
                self.assertEqual(last(ask(look, kind)), [-1], (look, kind))


if __name__ == "__main__":
    unittest.main()

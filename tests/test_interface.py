import contextlib
import io
import sys
import time
import unittest

from unknownkinds.house import answers
from tests.lines import (
    BIG, ask, asked, certain, count, first, fits, left, odds, offer, one_sort, open_, outcomes, possible, state, tell,
    try_look, use, why, worth,
)

LINE = (
    count() + open_([], [0] * 100, [BIG] * 100, [-BIG] * 100) + one_sort([2, 0, 3, 1], [30, 40, 40, 53])
    + outcomes(5, [1, 2, 1, 2]) + outcomes(6, [BIG] * 100) + use(0, 5) + offer(1, 1) + ask(2, 0) + ask(2, 3)
    + possible(0) + possible(BIG) + certain() + count() + tell(3) + possible(1) + certain() + count()
    + left(1) + why(1, 1) + why(0, 1) + why(0, 0) + try_look(5) + try_look(6) + odds(0, 2) + odds(1, 1)
    + fits([0, 2, 3, 1]) + fits([BIG] * 100) + fits([]) + first() + worth(1) + state()
)
GIVEN = [
    1, -2, 1, -1, 1, 0, 1, 0, 1, -1, 2, 0, 1, 2, 0, 40, 2, 0, 0, 2, 0, 1, 3, 0, 0, 2, 1, -1, 5, 0, -1, -1, 3, -1,
    2, 0, 4, 2, 0, 1, 3, 0, 0, 2, 5, 0, -1, -1, 3, 1, 2, 0, 2,
    4, 0, 0, 1, 2, 3, 0, 2, 3, 2, 0, 1, 2, 0, 0, 3, 0, 0, 2, 1, -5, 3, 0, 1, 2, 3, 0, 0, 1,
    2, 0, 1, 1, -1, 2, 0, 0, 5, 0, 0, 2, 3, 1, 3, 0, 30, 40, 11, 0, 4, 5, 0, 0, 0, 0, 0, 0, 0, 0,
]


class InterfaceTest(unittest.TestCase):
    def test_each_answer_has_its_length_before_it(self):
        self.assertEqual(answers([8]), [1, -2])
        self.assertEqual(answers([0, 2, 1, 0, 2, 0, 0, 2, 0, 0, 2, 7, 8, 8, 7, 6, 1]),
                         [1, 0, 2, 0, 2, 3, 0, -1, -1, 3, 0, 0, 1])

    def test_a_line_of_every_call(self):
        self.assertEqual(answers(list(LINE)), GIVEN)

    def test_what_is_handed_in_is_as_it_was(self):
        line = list(LINE)
        given = answers(line)
        self.assertEqual(line, LINE)
        given.append(7)
        self.assertEqual(line, LINE)

    def test_called_again_it_answers_the_same(self):
        line = list(LINE)
        first = answers(line)
        answers(one_sort([0]) + tell(0))
        second = answers(line)
        self.assertEqual(first, second)
        self.assertIsNot(first, second)
        self.assertEqual(answers(count()), [1, -2])

    def test_changing_what_was_given_back_changes_nothing_later(self):
        answers(list(LINE)).clear()
        self.assertEqual(answers(list(LINE)), GIVEN)

    def test_a_list_of_ints_never_true_or_false(self):
        given = answers(list(LINE))
        self.assertIs(type(given), list)
        self.assertEqual({type(number) for number in given}, {int})

    def test_rows_of_100_numbers_are_read_to_their_end(self):
        for which in range(4):
            rows = [[0], [0], [0], [1]]
            rows[which] = [8] * 100
            self.assertEqual(answers(open_(*rows) + count()), [1, -1, 1, -2])
        self.assertEqual(answers(outcomes(0, [8] * 100) + count()), [1, -1, 1, -2])
        self.assertEqual(answers(fits([8] * 100) + count()), [1, -1, 1, -2])

    def test_200_calls(self):
        ten = one_sort(list(range(10)))
        self.assertEqual(answers(ten + certain() * 199), [1, 0] + ([11, 0] + [-1] * 10) * 199)
        self.assertEqual(answers(count() * 200), [1, -2] * 200)

    def test_200_calls_on_ten_looks_end_in_reasonable_time(self):
        shown = [one_sort(list(range(10)), list(range(1, 11))), outcomes(0, list(range(10)))]
        shown.extend(ask(look, 9) for look in range(9))
        questions = [
            possible(9), certain(), count(), left(9), why(9, 0), try_look(0), odds(9, 0), fits(list(range(10))),
            first(), worth(9), state(),
        ]
        for question in questions:
            begun = time.perf_counter()
            given = asked(*shown, *[question] * 189)
            self.assertLess(time.perf_counter() - begun, 20, question)
            self.assertEqual((len(given), given[11:]), (200, [given[11]] * 189))
            self.assertEqual(given[11][0], 0, question)

    def test_the_longest_calls_one_behind_another(self):
        longest = open_([BIG] * 100, [-BIG] * 100, [BIG] * 100, [-BIG] * 100)
        self.assertEqual(answers(longest * 40), [1, -1] * 40)

    def test_it_prints_reads_and_imports_nothing(self):
        out = io.StringIO()
        err = io.StringIO()
        before = list(sys.modules)
        kept = sys.stdin
        sys.stdin = None
        try:
            with contextlib.redirect_stdout(out), contextlib.redirect_stderr(err):
                answers(list(LINE))
        finally:
            sys.stdin = kept
        self.assertEqual(list(sys.modules), before)
        self.assertEqual(out.getvalue() + err.getvalue(), "")


if __name__ == "__main__":
    unittest.main()

"""Points 2.1 to 2.3, 3 and 5: what chains give for rows."""

import copy
import unittest
from itertools import product

import by_hand
import chain_samples as samples
from foldchains.errors import InvalidChain, InvalidRow
from foldchains.running import run

MOST = 10 ** 30
GREAT_ROW = (MOST, -MOST, 0, -1, MOST - 1, 1 - MOST)

# A step, a row, and what it gives, counted by hand.
LONE = (
    (("line", 2, -3), (0, 1, -1, 5), (-3, -1, -5, 7)),
    (("line", 0, 9), (4, -4), (9, 9)),
    (("line", -3, 0), (MOST, -MOST), (-3 * MOST, 3 * MOST)),
    (("turn", 2, 1, 3, 4), (0, 1, 2, -1, -2, 3), (0, 7, 2, 1, -2, 13)),
    (("turn", 3, 2, -1, 0), (2, -1, 0, 1, -2, 5, -4), (-2, 1, 0, 1, -2, -5, 4)),
    # 10 ** 30 is 1 more than a multiple of 3, and -10 ** 30 is 2 more than one.
    (("turn", 3, 1, 0, 5), (MOST, -MOST), (5, -MOST)),
    (("keep", 2, 1), (0, 1, 2, -1, -2, 3), (1, -1, 3)),
    (("keep", 2, 0), (0, 1, 2, -1, -2, 3), (0, 2, -2)),
    (("keep", 3, 2), (-1, -2, -3, -4, 2, 5, 0), (-1, -4, 2, 5)),
    (("keep", 3, 1), (MOST, -MOST, MOST - 1), (MOST,)),
    (("every", 2, 0), (5, 6, 7, 8, 9), (5, 7, 9)),
    (("every", 2, 1), (5, 6, 7, 8, 9), (6, 8)),
    (("every", 3, 2), (5, -6, 7, 8, 9, -MOST, 0), (7, -MOST)),
    (("twice",), (5, -6, 0), (5, 5, -6, -6, 0, 0)),
    (("sums",), (1, 2, 3), (1, 3, 6)),
    (("sums",), (-5, 0, 7, -9), (-5, -5, 2, -7)),
    (("sums",), (MOST, MOST, MOST, -1), (MOST, 2 * MOST, 3 * MOST, 3 * MOST - 1)),
    (("anew", 2, 0), (1, 3, 4, 5, -7, 0, 1), (1, 4, 4, 9, 2, 0, 1)),
    (("anew", 3, 2), (3, 4, -1, 1, 1, 2, -3), (3, 7, -1, 0, 1, 2, -1)),
    (("anew", 2, 1), (2, MOST, -1, -MOST), (2, MOST + 2, -1, -MOST - 1)),
    (("gaps",), (5, 6, 4, -4, 0), (5, 1, -2, -8, 4)),
    (("gaps",), (-MOST, MOST, 0), (-MOST, 2 * MOST, -MOST)),
    (("groups", 2), (1, 2, 3, 4, 5), (3, 7)),
    (("groups", 3), (1, 2, -3, 4, 5, 6, 7, 8), (0, 15)),
    (("groups", 2), (MOST, MOST, -MOST), (2 * MOST,)),
    (("count",), (7, -7, 0, MOST), (1, 2, 3, 4)),
)

# A chain, a row, and what it gives, counted by hand.
JOINT = (
    ((("keep", 2, 0), ("sums",)), (1, 2, 3, 4, -6, 5), (2, 6, 0)),
    ((("sums",), ("keep", 2, 0)), (1, 2, 3, 4, -6, 5), (6, 10, 4)),
    ((("keep", 3, 1), ("count",)), (1, 2, 4, 0, -2), (1, 2, 3)),
    ((("keep", 2, 1), ("gaps",)), (2, 5, 4, 1, 1), (5, -4, 0)),
    ((("keep", 2, 1), ("groups", 2)), (1, 2, 3, 4, 5, 7), (4, 12)),
    ((("keep", 2, 1), ("every", 2, 1)), (1, 2, 3, 5, 4, 7), (3, 7)),
    ((("every", 2, 1), ("sums",)), (1, 2, 3, 4, 5, 6), (2, 6, 12)),
    ((("every", 3, 0), ("every", 2, 1)), tuple(range(13)), (3, 9)),
    ((("every", 2, 0), ("gaps",)), (4, 5, 9, 9, 1), (4, 5, -8)),
    ((("groups", 2), ("groups", 3)), tuple(range(1, 14)), (21, 57)),
    ((("groups", 2), ("sums",)), (1, 2, 3, 4, 5), (3, 10)),
    ((("groups", 3), ("gaps",)), (1, 1, 1, 2, 2, 2, 9), (3, 3)),
    ((("groups", 2), ("count",)), (5, 5, 5, 5, 5), (1, 2)),
    ((("twice",), ("sums",)), (1, 2, -5), (1, 2, 4, 6, 1, -4)),
    ((("twice",), ("gaps",)), (3, 5), (3, 0, 2, 0)),
    ((("twice",), ("groups", 3)), (1, 2, 3, 4), (4, 8)),
    ((("twice",), ("count",)), (0, 0), (1, 2, 3, 4)),
    ((("twice",), ("every", 3, 2)), (1, 2, 3), (2, 3)),
    ((("twice",), ("anew", 2, 0)), (1, 2, 3), (1, 2, 2, 2, 5, 8)),
    ((("sums",), ("sums",)), (1, 0, 0, -1), (1, 2, 3, 3)),
    ((("sums",), ("gaps",)), (3, 1, -4), (3, 1, -4)),
    ((("count",), ("keep", 3, 0), ("line", 2, 1)), (8,) * 7, (7, 13)),
    ((("line", 2, 1), ("turn", 3, 0, 0, 0), ("anew", 2, 0)), (1, 2, 4), (0, 5, 0)),
    ((("keep", 2, 0), ("twice",), ("sums",), ("every", 3, 1)), (2, 1, 4, 6, -8), (4, 18, 8)),
    ((("every", 2, 1), ("groups", 2), ("twice",), ("count",)), (0,) * 9, (1, 2, 3, 4)),
    ((("groups", 2), ("keep", 2, 1), ("gaps",), ("line", -1, 0)), (1, 2, 3, 3, 4, 5), (-3, -6)),
)


class LoneStepsTest(unittest.TestCase):
    def test_each_kind(self):
        self.assertEqual({step[0] for step, _, _ in LONE}, set(samples.KINDS))
        for step, row, given in LONE:
            with self.subTest(step=step):
                self.assertEqual(run((step,), row), given)

    def test_zero_and_great_numbers(self):
        for step in samples.all_steps():
            for row in ((0,), (0, 0, 0, 0), GREAT_ROW, (-MOST,) * 7, (MOST,) * 7):
                self.assertEqual(run((step,), row), by_hand.run_by_hand((step,), row), step)

    def test_every_step_near_zero(self):
        for step in samples.all_steps():
            row = tuple(range(-7, 8)) + (6, -6, 5, 0, 0)
            self.assertEqual(run((step,), row), by_hand.run_by_hand((step,), row), step)


class ChainsTest(unittest.TestCase):
    def test_by_hand(self):
        for chain, row, given in JOINT:
            with self.subTest(chain=chain):
                self.assertEqual(run(chain, row), given)

    def test_no_steps(self):
        for row in ((), (0,), (3, -4, 0), GREAT_ROW):
            self.assertEqual(run((), row), row)

    def test_no_numbers(self):
        for chain in samples.kind_chains():
            self.assertEqual(run(chain, ()), ())

    def test_every_sequence_of_kinds(self):
        row = (1, -2, 3, 4, 0, 9, -7, MOST, 5, 2, -MOST, 6, 8, -1, -3, 10, 11, 7)
        for chain in samples.kind_chains():
            given = run(chain, row)
            self.assertEqual(given, by_hand.run_by_hand(chain, row), chain)
            self.assertIs(type(given), tuple)
            self.assertTrue(all(type(number) is int for number in given), chain)

    def test_filters_ahead_of_steps_that_remember(self):
        ahead = (("keep", 2, 1), ("keep", 3, 0), ("every", 2, 1), ("every", 3, 2), ("groups", 2),
                 ("groups", 3), ("twice",))
        behind = (("sums",), ("anew", 2, 0), ("anew", 3, 1), ("gaps",), ("groups", 2),
                  ("groups", 3), ("count",), ("every", 2, 0), ("every", 3, 1))
        rows = by_hand.drawn_rows(1, 3, 20)
        for steps in product(ahead, behind):
            for chain in (steps, (("line", 2, 1),) + steps, steps + (("line", -1, 3),)):
                for row in rows:
                    self.assertEqual(run(chain, row), by_hand.run_by_hand(chain, row), chain)

    def test_chains_at_the_limits(self):
        for chain in samples.AT_LIMITS + samples.GREAT:
            for row in by_hand.drawn_rows(2, 2, 40) + by_hand.drawn_rows(3, 1, 60, MOST):
                self.assertEqual(run(chain, row), by_hand.run_by_hand(chain, row), chain)

    def test_a_longer_row_goes_on_as_it_began(self):
        for chain in samples.drawn_chains(4, 60):
            for row in by_hand.drawn_rows(5, 1, 12):
                given = run(chain, row)
                for many in range(12):
                    part = run(chain, row[:many])
                    self.assertEqual(part, given[:len(part)])

    def test_the_most_numbers(self):
        for length in (59, 60):
            self.assertEqual(run((), (MOST,) * length), (MOST,) * length)
            self.assertEqual(run((("sums",),), (-MOST,) * length)[-1], -MOST * length)
        self.assertEqual(len(run((("twice",),), (1,) * 60)), 120)


class WrongTest(unittest.TestCase):
    def check_wrong(self, error, chain, row):
        with self.assertRaises(error) as caught:
            run(chain, row)
        self.assertIs(type(caught.exception), error)

    def test_what_is_no_row(self):
        for row in samples.wrong_rows():
            self.check_wrong(InvalidRow, (("sums",),), row)
            self.check_wrong(InvalidRow, (), row)

    def test_numbers_at_the_limits_and_beyond(self):
        for at in (0, 30, 59):
            for number, right in ((MOST, True), (-MOST, True), (MOST + 1, False),
                                  (-MOST - 1, False)):
                row = (0,) * at + (number,) + (0,) * (59 - at)
                if right:
                    self.assertEqual(run((), row), row)
                else:
                    self.check_wrong(InvalidRow, (), row)

    def test_60_and_61_numbers(self):
        self.assertEqual(run((("count",),), (0,) * 60), tuple(range(1, 61)))
        self.check_wrong(InvalidRow, (("count",),), (0,) * 61)

    def test_what_is_no_chain(self):
        for chain in samples.wrong_chains():
            self.check_wrong(InvalidChain, chain, (1, 2))

    def test_the_first_wrong_argument_tells(self):
        for chain in samples.wrong_chains():
            for row in ((0,) * 61, [1], None, (True,)):
                self.check_wrong(InvalidChain, chain, row)


class PureTest(unittest.TestCase):
    def test_equal_arguments_give_equal_results(self):
        for chain in samples.drawn_chains(6, 30):
            first = run(chain, (1, 2, 3, 4, 5, 6))
            run(chain, (9, 9))
            again = tuple(tuple(step) for step in list(chain))
            self.assertEqual(run(again, tuple([1, 2, 3, 4, 5, 6])), first)

    def test_arguments_are_not_changed(self):
        for row in ([1, 2], {1: 2}, ([1],)):
            before = copy.deepcopy(row)
            with self.assertRaises(InvalidRow):
                run((), row)
            self.assertEqual(row, before)


if __name__ == "__main__":
    unittest.main()

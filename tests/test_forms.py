"""Points 2.4 to 2.6, 3 and 5: the forms of chains."""

import copy
import math
import unittest

import by_hand
import chain_samples as samples
import form_reading as reading
from foldchains.errors import InvalidChain
from foldchains.running import run
from foldchains.tables import form

ONE = (1, 1)
EMPTY = ((0, ONE),)
FIRST = ((1, ONE),)
ONE_EACH = (((1, 0),),)
ALONE = (((), 0),)


def line_form(a, b):
    return 1, ONE_EACH, ALONE, ((((b,), EMPTY), ((a + b,), EMPTY)),)


# The form of a chain, worked out by hand.
WRITTEN = (
    ((), line_form(1, 0)),
    ((("line", 2, -3),), line_form(2, -3)),
    ((("line", -1, 0),), line_form(-1, 0)),
    ((("line", 0, 5),), line_form(0, 5)),
    # All of its numbers are 0: its rest is the mix of no rests, and no row is a basis row.
    ((("line", 0, 0),), (1, ONE_EACH, (), ())),
    ((("line", 1, 0),), line_form(1, 0)),
    ((("turn", 2, 1, 3, 4),), (2, (((1, 0), (1, 0)),), ALONE, (
        (((0,), EMPTY), ((7,), EMPTY), ((2,), EMPTY), ((13,), EMPTY)),))),
    ((("turn", 3, 2, 0, -1),), (3, (((1, 0), (1, 0), (1, 0)),), ALONE, (
        (((0,), EMPTY), ((1,), EMPTY), ((-1,), EMPTY),
         ((3,), EMPTY), ((4,), EMPTY), ((-1,), EMPTY)),))),
    # This turn changes nothing, so that the least modulus is 1.
    ((("turn", 3, 1, 1, 0),), line_form(1, 0)),
    ((("keep", 2, 1),), (2, (((0, 0), (1, 0)),), ALONE, (
        (((), EMPTY), ((1,), EMPTY), ((), EMPTY), ((3,), EMPTY)),))),
    ((("keep", 3, 0),), (3, (((1, 0), (0, 0), (0, 0)),), ALONE, (
        (((0,), EMPTY), ((), EMPTY), ((), EMPTY), ((3,), EMPTY), ((), EMPTY), ((), EMPTY)),))),
    ((("every", 2, 0),), (1, (((1, 1),), ((0, 0),)), (((), 0), ((0,), 1)), (
        (((0,), FIRST), ((1,), FIRST)),
        (((), EMPTY), ((), EMPTY))))),
    ((("every", 3, 2),), (1, (((0, 1),), ((0, 2),), ((1, 0),)),
                          (((), 0), ((0,), 1), ((0, 0), 2)), (
        (((), FIRST), ((), FIRST)),
        (((), ((2, ONE),)), ((), ((2, ONE),))),
        (((0,), EMPTY), ((1,), EMPTY))))),
    ((("twice",),), (1, (((2, 0),),), ALONE, ((((0, 0), EMPTY), ((1, 1), EMPTY)),))),
    ((("sums",),), (1, ONE_EACH, (((), 0), ((1,), 0)), (
        (((0,), EMPTY), ((1,), FIRST)),
        (((1,), FIRST), ((2,), ((0, (-1, 1)), (1, (2, 1)))))))),
    ((("anew", 2, 0),), (2, (((1, 0), (1, 0)),), (((), 0), ((1,), 0)), (
        (((0,), EMPTY), ((1,), FIRST),
         ((2,), ((0, (-1, 1)), (1, (2, 1)))), ((3,), ((0, (-2, 1)), (1, (3, 1))))),
        (((0,), EMPTY), ((2,), ((0, (-1, 1)), (1, (2, 1)))),
         ((2,), ((0, (-1, 1)), (1, (2, 1)))), ((4,), ((0, (-3, 1)), (1, (4, 1)))))))),
    ((("gaps",),), (1, ONE_EACH, (((), 0), ((1,), 0)), (
        (((0,), EMPTY), ((1,), FIRST)),
        (((-1,), EMPTY), ((0,), FIRST))))),
    ((("groups", 2),), (1, (((0, 1),), ((1, 0),)), (((), 0), ((0,), 1), ((1,), 1)), (
        (((), FIRST), ((), ((2, ONE),))),
        (((0,), EMPTY), ((1,), EMPTY)),
        (((1,), EMPTY), ((2,), EMPTY))))),
    ((("groups", 3),), (1, (((0, 1),), ((0, 2),), ((1, 0),)),
                        (((), 0), ((0,), 1), ((1,), 1), ((0, 0), 2), ((0, 1), 2)), (
        (((), FIRST), ((), ((2, ONE),))),
        (((), ((3, ONE),)), ((), ((4, ONE),))),
        (((), ((4, ONE),)), ((), ((3, (-1, 1)), (4, (2, 1))))),
        (((0,), EMPTY), ((1,), EMPTY)),
        (((1,), EMPTY), ((2,), EMPTY))))),
    ((("count",),), (1, ONE_EACH, (((), 0), ((0,), 0)), (
        (((1,), FIRST), ((1,), FIRST)),
        (((2,), ((0, (-1, 1)), (1, (2, 1)))), ((2,), ((0, (-1, 1)), (1, (2, 1)))))))),
    # It gives no number for any row.
    ((("keep", 2, 0), ("keep", 2, 1)), (1, (((0, 0),),), (), ())),
    # The numbers are 0, but the groups tell how many there are.
    ((("groups", 2), ("line", 0, 0)), (1, (((0, 1),), ((1, 0),)), (), ())),
    ((("keep", 2, 1), ("line", 0, 0)), (2, (((0, 0), (1, 0)),), (), ())),
    # 2 * x - 1 is odd whatever x is: all numbers are kept.
    ((("line", 2, -1), ("keep", 2, 1)), line_form(2, -1)),
    # The weights tell of sums that are twice those of the row (1,).
    ((("line", 2, 0), ("sums",)), (1, ONE_EACH, (((), 0), ((1,), 0)), (
        (((0,), EMPTY), ((2,), FIRST)),
        (((2,), FIRST), ((4,), ((0, (-1, 1)), (1, (2, 1)))))))),
    # Only even numbers are summed, so (1,) is like the empty row, and (2,) the next basis row.
    ((("keep", 2, 0), ("line", 3, 0), ("sums",)), (2, (((1, 0), (0, 0)),), (((), 0), ((2,), 0)), (
        (((0,), EMPTY), ((), EMPTY), ((6,), FIRST), ((), EMPTY)),
        (((6,), FIRST), ((), FIRST), ((12,), ((0, (-1, 1)), (1, (2, 1)))), ((), FIRST))))),
)


def form_chains():
    """Chains of all kinds, of one to four steps."""
    kinds = samples.kind_chains()
    short = [chain for chain in kinds if len(chain) < 3]
    long = [chain for chain in kinds if len(chain) >= 3]
    chains = short + long[::23] + samples.drawn_chains(7, 120) + list(samples.AT_LIMITS)
    return samples.without_repeats(chains + list(samples.GREAT))


class WrittenTest(unittest.TestCase):
    def test_forms_by_hand(self):
        lone = {chain[0][0] for chain, _ in WRITTEN if len(chain) == 1}
        self.assertEqual(lone, set(samples.KINDS))
        for chain, found in WRITTEN:
            with self.subTest(chain=chain):
                self.assertEqual(form(chain), found)

    def test_a_weight_that_is_no_integer(self):
        # The sum is 4 behind (1,), a basis row, and 2 behind (2,): that is a half of 0 and of 4.
        found = form((("turn", 3, 1, 2, 2), ("sums",)))
        self.assertEqual(found[2], (((), 0), ((1,), 0)))
        self.assertEqual(found[3][0][2], ((2,), ((0, (1, 2)), (1, (1, 2)))))
        weights = {weight for line in found[3] for _, mix in line for _, weight in mix}
        self.assertTrue(any(bottom > 1 for _, bottom in weights), found)
        for top, bottom in weights:
            self.assertEqual(math.gcd(top, bottom), 1)
            self.assertGreater(bottom, 0)

    def test_every_lone_step(self):
        for step in samples.all_steps():
            if step[0] == "line" and step[1:] != (0, 0):
                self.assertEqual(form((step,)), line_form(*step[1:]))
            if step[0] == "turn":
                self.assertEqual(form((step,)), self.turn_form(step))

    def turn_form(self, step):
        _, m, r, a, b = step
        if (a, b) == (1, 0):
            return line_form(1, 0)
        line = tuple(((a * x + b if x % m == r else x,), EMPTY) for x in range(2 * m))
        return m, (((1, 0),) * m,), ALONE, (line,)


class ManyFormsTest(unittest.TestCase):
    """What points 2.4 to 2.6 say of every form, for chains of all kinds."""

    @classmethod
    def setUpClass(cls):
        cls.forms = {chain: form(chain) for chain in form_chains()}

    def test_kinds_of_values(self):
        for chain, found in self.forms.items():
            modulus, counts, basis, entries = found
            self.assertIs(type(found), tuple)
            self.assert_whole([modulus])
            self.assertGreaterEqual(modulus, 1)
            for value in (counts, basis, entries):
                self.assertIs(type(value), tuple)
            for line in counts:
                self.assertEqual((type(line), len(line)), (tuple, modulus), chain)
                for pair in line:
                    self.assertIs(type(pair), tuple)
                    self.assert_whole(pair)
            self.assertEqual(len(entries), len(basis))
            for row, group in basis:
                self.assertIs(type(row), tuple)
                self.assert_whole(row + (group,))
            for line in entries:
                self.assertEqual((type(line), len(line)), (tuple, 2 * modulus), chain)

    def test_kinds_of_values_in_entries(self):
        for found in self.forms.values():
            for line in found[3]:
                for given, mix in line:
                    self.assertEqual((type(given), type(mix)), (tuple, tuple))
                    self.assert_whole(given)
                    self.assertEqual(list(mix), sorted(set(mix)))
                    self.assertEqual(len(dict(mix)), len(mix))
                    for at, (top, bottom) in mix:
                        self.assert_whole((at, top, bottom))
                        self.assertNotEqual(top, 0)
                        self.assertGreater(bottom, 0)
                        self.assertEqual(math.gcd(top, bottom), 1)

    def assert_whole(self, numbers):
        self.assertTrue(all(type(number) is int for number in numbers), numbers)

    def test_read_along_rows_they_tell_what_is_given(self):
        rows = by_hand.drawn_rows(8, 6, 14, 8) + by_hand.drawn_rows(9, 2, 14, 10 ** 4)
        rows += by_hand.drawn_rows(10, 1, 60, 10 ** 30)
        for chain, found in self.forms.items():
            for row in rows if len(found[2]) < 40 else rows[::3]:
                told, _, _ = reading.read(found, row)
                self.assertEqual(told, by_hand.told(chain, row), chain)
                flat = tuple(number for numbers in told for number in numbers)
                self.assertEqual(flat, run(chain, row), chain)

    def test_entries_tell_what_is_given_behind_basis_rows(self):
        for chain, (modulus, _, basis, entries) in self.forms.items():
            for (row, _), line in list(zip(basis, entries))[:30]:
                for x in range(2 * modulus):
                    given = run(chain, row + (x,))[len(run(chain, row)):]
                    self.assertEqual(line[x][0], given, chain)

    def test_counts_tell_how_many_are_given(self):
        for chain, (modulus, counts, _, _) in self.forms.items():
            for row in by_hand.drawn_rows(11, 3, 20):
                group = 0
                for x, numbers in zip(row, by_hand.told(chain, row)):
                    many, group = counts[group][x % modulus]
                    self.assertEqual(many, len(numbers), chain)

    def test_basis_rows_and_mixes_are_in_the_group_behind(self):
        for chain, (modulus, counts, basis, entries) in self.forms.items():
            groups = [group for _, group in basis]
            for row, own in basis:
                group = 0
                for x in row:
                    group = counts[group][x % modulus][1]
                self.assertEqual(group, own, chain)
            for group, line in zip(groups, entries):
                for x, (_, mix) in enumerate(line):
                    behind = counts[group][x % modulus][1]
                    self.assertTrue(all(groups[at] == behind for at, _ in mix), chain)

    def test_no_two_groups_count_alike(self):
        for chain, found in self.forms.items():
            self.assertEqual(reading.class_count(found[1]), len(found[1]), chain)

    def test_groups_are_numbered_as_they_are_found(self):
        for chain, found in self.forms.items():
            self.assertEqual(reading.found_groups(found[1]), list(range(len(found[1]))), chain)

    def test_basis_rows_are_found_in_sequence(self):
        for chain, (modulus, _, basis, _) in self.forms.items():
            rows = [row for row, _ in basis]
            self.assertEqual(rows, sorted(set(rows), key=lambda row: (len(row), row)), chain)
            for row in rows:
                if row:
                    self.assertIn(row[:-1], rows, chain)
                    self.assertIn(row[-1], range(2 * modulus), chain)

    def test_other_rows_are_mixes_of_those_found_ahead(self):
        for chain, (_, _, basis, entries) in self.forms.items():
            numbers = {row: at for at, (row, _) in enumerate(basis)}
            found = 1
            for (row, _), line in zip(basis, entries):
                for x, (_, mix) in enumerate(line):
                    behind = row + (x,)
                    if behind in numbers:
                        self.assertEqual((numbers[behind], mix), (found, ((found, ONE),)), chain)
                        found += 1
                    self.assertTrue(all(at < found for at, _ in mix), chain)
            self.assertEqual(len(basis), found if basis else 0)

    def test_no_basis_row_is_a_mix_of_others(self):
        for chain, found in self.forms.items():
            groups = [group for _, group in found[2]]
            many = [groups.count(group) for group in range(len(found[1]))]
            self.assertEqual(reading.count_free(found), many, chain)

    def test_no_lesser_modulus_goes_on_evenly(self):
        for chain, found in self.forms.items():
            for modulus in range(1, found[0]):
                self.assertFalse(reading.goes_evenly(found, modulus), (chain, modulus))

    def test_no_basis_rows_just_if_all_numbers_are_0(self):
        rows = by_hand.drawn_rows(12, 2, 250)
        for chain, found in self.forms.items():
            only_zeros = not any(any(by_hand.run_by_hand(chain, row)) for row in rows)
            self.assertEqual(found[2] == (), only_zeros, chain)
            if not only_zeros:
                self.assertEqual(found[2][0], ((), 0))


class DefinitionTest(unittest.TestCase):
    """The forms of some chains, against the definitions worked out over many rows."""

    CHAINS = (
        (("sums",), ("sums",)),
        (("sums",), ("keep", 2, 1)),
        (("keep", 3, 1), ("sums",)),
        (("anew", 3, 2),),
        (("anew", 2, 0), ("anew", 3, 1)),
        (("gaps",), ("turn", 2, 0, -1, 3)),
        (("count",), ("turn", 3, 1, 2, 0)),
        (("sums",), ("turn", 2, 1, 0, 4)),
        (("groups", 2), ("keep", 3, 2)),
        (("twice",), ("groups", 3), ("gaps",)),
        (("twice",), ("every", 3, 1), ("anew", 2, 1)),
        (("every", 2, 1), ("gaps",), ("turn", 3, 2, -1, 1)),
        (("keep", 2, 0), ("count",), ("keep", 3, 0)),
        (("turn", 2, 1, 2, 2), ("keep", 3, 1)),
        (("turn", 2, 0, 3, 0), ("turn", 3, 0, 1, 2)),
        (("gaps",), ("sums",), ("twice",)),
        (("sums",), ("gaps",), ("turn", 2, 0, 2, 1)),
        (("line", 2, 1), ("sums",), ("keep", 2, 0)),
        (("line", 3, -2), ("turn", 3, 1, 2, 0), ("every", 2, 0)),
    )

    def test_against_the_definitions(self):
        probes = by_hand.drawn_rows(13, 40, 12)
        for numbers in ((0, 2, 6), (1, 3, -5), (0, 3, -6), (1, 4, 7), (2, 5, -1)):
            probes += [tuple(numbers[at] for at in row)
                       for row in ((0,) * 12, (0, 1, 2) * 4, (1, 0, 0, 2) * 3, (2, 1) * 6)]
        rows = [()] + by_hand.drawn_rows(14, 3, 3) + by_hand.drawn_rows(15, 3, 8)
        for chain in self.CHAINS:
            with self.subTest(chain=chain):
                self.check(chain, rows, probes)

    def check(self, chain, rows, probes):
        modulus, counts, basis, entries = form(chain)
        self.assertEqual(modulus, by_hand.modulus_by_hand(chain, rows, probes[::3]))
        found, keys = by_hand.counts_by_hand(chain, modulus, probes)
        self.assertEqual(counts, found)
        self.assertEqual(basis, by_hand.basis_by_hand(chain, modulus, keys, probes))
        for (row, _), line in zip(basis, entries):
            for x, (given, mix) in enumerate(line):
                self.assertEqual(given, by_hand.told(chain, row + (x,))[-1])
                self.assertTrue(by_hand.is_mix(chain, row + (x,), mix, basis, probes))


class WrongTest(unittest.TestCase):
    def test_what_is_no_chain(self):
        for value in samples.wrong_chains():
            with self.assertRaises(InvalidChain) as caught:
                form(value)
            self.assertIs(type(caught.exception), InvalidChain)


class PureTest(unittest.TestCase):
    def test_equal_arguments_give_equal_results(self):
        for chain in samples.AT_LIMITS:
            first = form(chain)
            form((("anew", 3, 1), ("gaps",)))
            self.assertEqual(form(tuple(tuple(step) for step in chain)), first)

    def test_arguments_are_not_changed(self):
        for value in ([("sums",)], (["sums"],), {"sums": [1]}, [["keep", 2, 0]]):
            before = copy.deepcopy(value)
            with self.assertRaises(InvalidChain):
                form(value)
            self.assertEqual(value, before)


if __name__ == "__main__":
    unittest.main()

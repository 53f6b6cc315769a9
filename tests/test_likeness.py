"""Points 1, 3 and 6: what chains have in common, and steps that can be left out or exchanged."""

import copy
import math
import unittest
from itertools import combinations

import by_hand
import chain_samples as samples
import form_reading as reading
from foldchains.chains import is_chain
from foldchains.errors import InvalidChain, InvalidRow, TooMany
from foldchains.likeness import (
    exchangeable, gives_as_many, gives_nothing, joined, mix, needless, parting, same, sizes, thinned,
)
from foldchains.running import run
from foldchains.tables import form
from foldchains.texts import parse_chain

S = (("sums",),)
MOST = 10 ** 30

# Texts of two chains that give the same for all rows.
ALIKE = (
    ("", "line 1 0"),
    ("", "gaps | sums"),
    ("", "sums | gaps"),
    ("", "turn 2 0 1 0"),
    ("", "line -1 0 | line -1 0"),
    ("sums", "line 1 0 | sums"),
    ("sums | gaps", "gaps | sums"),
    ("line 1 3 | line 1 -3", "turn 3 1 1 0"),
    ("line 2 1 | line 3 -4", "line 3 1 | line 2 -3"),
    ("line 2 0 | sums", "sums | line 2 0"),
    ("groups 2 | groups 3", "groups 3 | groups 2"),
    ("keep 2 0 | keep 2 0", "keep 2 0"),
    ("keep 2 0 | keep 2 1", "keep 3 0 | keep 3 2"),
    ("keep 2 0 | keep 2 1", "line 2 0 | keep 2 1 | sums"),
    ("keep 2 0 | keep 3 0", "keep 3 0 | keep 2 0"),
    ("every 2 0 | every 3 0", "every 3 0 | every 2 0"),
    ("every 2 1 | every 2 1 | line 0 0", "every 2 1 | line 0 0 | every 2 1"),
    ("twice | every 2 0", "twice | every 2 1"),
    ("twice | every 2 0", ""),
    ("twice | gaps | every 2 0", "gaps"),
    ("twice | groups 2", "line 2 0"),
    ("count", "line 0 1 | sums"),
    ("count", "line 3 7 | count"),
    ("line 0 2 | sums", "count | line 2 0"),
    ("line 0 3 | gaps | sums", "line 0 3"),
    ("turn 2 1 3 1 | keep 2 0", "turn 2 1 3 1"),
    ("anew 2 0 | line 2 1", "line 1 0 | anew 2 0 | line 2 1"),
    ("line 2 0 | anew 2 0", "line 2 0"),
    ("line 2 1 | anew 2 0", "line 2 1 | sums"),
    ("turn 3 2 0 9 | turn 3 0 0 1", "turn 3 0 0 1 | turn 3 2 0 1"),
)

# Texts of two chains, and the first row for which they do not give the same, found by hand.
UNLIKE = (
    ("sums", "", (1, 0)),
    ("line 1 0", "line 1 1", (0,)),
    ("line 2 0", "line 3 0", (1,)),
    ("", "line 0 0", (1,)),
    ("", "keep 2 0", (1,)),
    ("", "keep 3 2", (0,)),
    ("keep 2 0", "keep 3 0", (2,)),
    ("keep 3 0", "keep 3 1", (0,)),
    ("turn 2 1 1 2", "turn 3 2 1 2", (1,)),
    # Numbers from the modulus on are needed to see that the first ones are alike by chance only.
    ("turn 2 1 0 1", "", (3,)),
    ("turn 3 2 0 2", "", (5,)),
    ("keep 2 1 | keep 3 2", "keep 3 2 | keep 2 1 | line 0 5", (11,)),
    ("gaps", "", (1, 0)),
    ("groups 2", "groups 3", (0, 0)),
    ("groups 2", "every 2 1", (1, 0)),
    ("groups 3", "every 3 2", (0, 1, 0)),
    ("every 3 2", "every 3 2 | line 1 1", (0, 0, 0)),
    ("every 3 2", "every 3 2 | line 2 0", (0, 0, 1)),
    ("every 2 1 | every 2 1", "every 2 1 | every 2 1 | line 1 -9", (0, 0, 0, 0)),
    ("groups 2 | groups 2", "groups 2 | every 2 1", (0, 1, 0, 0)),
    ("groups 2 | groups 2", "every 2 1 | groups 2", (0, 0, 1, 0)),
    ("groups 2 | groups 2 | line 2 0", "groups 2 | groups 2", (0, 0, 0, 1)),
    ("sums | every 3 2", "groups 3", (0, 0, 1, 0, 0, 0)),
    ("count", "line 0 1", (0, 0)),
    ("count | keep 3 0", "every 3 2 | line 0 3", (0,) * 6),
    ("count | turn 3 0 1 0 | keep 3 0", "count | turn 3 0 1 1", (0,)),
    ("keep 2 1 | keep 3 2", "keep 3 2", (2,)),
    ("keep 3 1 | keep 2 1", "keep 2 1 | keep 3 2", (1,)),
    ("anew 2 0", "sums", (1, 0)),
    ("anew 3 0", "sums", (1, 0)),
    ("anew 2 1", "sums", (1, 1)),
    ("every 3 2 | every 3 2 | every 3 2", "every 3 2 | every 3 2 | every 3 2 | line 1 1", (0,) * 27),
)

# The text of a chain; the steps that can be left out; what is left; the steps to exchange.
LOOSE = (
    ("", (), "", ()),
    ("line 1 0", (0,), "", ()),
    ("sums", (), "sums", ()),
    ("line 1 0 | sums", (0,), "sums", (0,)),
    ("sums | line 1 0", (1,), "sums", (0,)),
    ("sums | gaps", (), "sums | gaps", (0,)),
    ("keep 2 0 | keep 2 0", (0, 1), "keep 2 0", (0,)),
    ("keep 3 1 | sums | keep 3 1", (), "keep 3 1 | sums | keep 3 1", ()),
    ("line 1 3 | line 1 -3", (), "line 1 3 | line 1 -3", (0,)),
    ("line 1 3 | line 2 0", (), "line 1 3 | line 2 0", ()),
    ("line -1 0 | line 3 0 | line 1 0", (2,), "line -1 0 | line 3 0", (0, 1)),
    # Each of the two can be left out, but not both.
    ("line 0 0 | line 0 0", (0, 1), "line 0 0", (0,)),
    ("line 0 0 | line 2 0", (1,), "line 0 0", (0,)),
    ("line 0 0 | sums | line 0 0 | gaps", (0, 1, 2, 3), "line 0 0", (0, 1, 2)),
    # Behind the first step all numbers are even.
    ("line 2 0 | keep 2 0 | turn 2 1 3 5", (1, 2), "line 2 0", (1,)),
    ("keep 2 0 | keep 2 1", (), "keep 2 0 | keep 2 1", (0,)),
    ("keep 2 0 | keep 2 1 | sums", (2,), "keep 2 0 | keep 2 1", (0, 1)),
    ("count | sums", (), "count | sums", ()),
    ("gaps | count", (0,), "count", ()),
    ("line 2 1 | count", (0,), "count", ()),
    ("line 0 1 | sums | count", (0, 1, 2), "count", (0,)),
    ("groups 2 | groups 3", (), "groups 2 | groups 3", (0,)),
    ("groups 2 | sums", (), "groups 2 | sums", ()),
    ("every 2 1 | every 2 0", (), "every 2 1 | every 2 0", ()),
    ("every 2 0 | every 3 0", (), "every 2 0 | every 3 0", (0,)),
    ("twice | every 2 0", (), "twice | every 2 0", ()),
    ("twice | line 2 1", (), "twice | line 2 1", (0,)),
    ("line 2 0 | sums | gaps | line -1 0", (), "line 2 0 | sums | gaps | line -1 0", (0, 1, 2)),
    ("turn 2 0 1 0 | turn 3 1 1 0 | count", (0, 1), "count", (0, 1)),
    ("keep 2 0 | turn 2 1 0 7 | line 1 0", (1, 2), "keep 2 0", (0, 1)),
)


def chains_at_hand():
    """Chains many of which give the same as others, and many of which part late."""
    texts = [text for pair in ALIKE for text in pair] + [text for row in UNLIKE for text in row[:2]]
    texts += [row[0] for row in LOOSE]
    return samples.without_repeats([parse_chain(text) for text in texts])


def unlike(chain, other, row):
    return by_hand.run_by_hand(chain, row) != by_hand.run_by_hand(other, row)


class AssertErrors(unittest.TestCase):
    def assert_raises(self, error, function, *arguments):
        with self.assertRaises(error) as caught:
            function(*arguments)
        self.assertIs(type(caught.exception), error)


class SameTest(AssertErrors):
    def test_alike_by_hand(self):
        for one, other in ALIKE:
            chains = parse_chain(one), parse_chain(other)
            for chain, second in (chains, chains[::-1]):
                with self.subTest(one=one, other=other):
                    self.assertIs(same(chain, second), True)
                    self.assertIsNone(parting(chain, second))
                    self.assertEqual(form(chain), form(second))

    def test_unlike_by_hand(self):
        for one, other, row in UNLIKE:
            chains = parse_chain(one), parse_chain(other)
            for chain, second in (chains, chains[::-1]):
                with self.subTest(one=one, other=other):
                    self.assertIs(same(chain, second), False)
                    self.assertEqual(parting(chain, second), row)
                    self.assertNotEqual(form(chain), form(second))

    def test_every_pair_by_forms_and_rows(self):
        forms = {chain: form(chain) for chain in chains_at_hand()}
        for chain, other in combinations(forms, 2):
            self.check_pair(chain, other, forms[chain], forms[other])

    def test_chains_and_others_near_them(self):
        for chain in samples.drawn_chains(21, 70):
            found = form(chain)
            for at in range(len(chain)):
                for other in (chain[:at] + chain[at + 1:], chain[at:] + chain[:at],
                              chain[:at] + (("line", 1, 1),) + chain[at + 1:]):
                    self.check_pair(chain, other, found, form(other))

    def test_great_chains(self):
        for chain in samples.GREAT:
            found = form(chain)
            self.check_pair(chain, chain, found, found)
            for other in (chain[:3], chain[:3] + (("line", 1, 0),), chain[1:]):
                self.check_pair(chain, other, found, form(other))

    def check_pair(self, chain, other, one_form, other_form):
        row = parting(chain, other)
        self.assertIs(same(chain, other), row is None, (chain, other))
        self.assertIs(one_form == other_form, row is None, (chain, other))
        modulus = math.lcm(one_form[0], other_form[0])
        if row is None:
            for drawn in by_hand.drawn_rows(22, 3, 20):
                self.assertFalse(unlike(chain, other, drawn), (chain, other))
        else:
            self.assertIs(type(row), tuple)
            self.assertTrue(all(type(x) is int and 0 <= x < 2 * modulus for x in row), row)
        self.check_first(chain, other, row, modulus)

    def check_first(self, chain, other, row, modulus):
        """Look at all rows up to the one that is told, as far as there are not too many."""
        many = 2 * modulus
        longest = 1
        while many ** (longest + 1) <= 400:
            longest += 1
        for short in by_hand.all_rows(range(many), longest):
            if short == row:
                break
            self.assertFalse(unlike(chain, other, short), (chain, other, row, short))
        if row is not None:
            self.assertTrue(unlike(chain, other, row), (chain, other, row))
            # Of rows that begin with all but one or two of its numbers it is the first one, too.
            for tail in by_hand.all_rows(range(many), 2 if many < 5 else 1):
                near = row[:max(len(row) - 2, 0)] + tail
                if (len(near), near) < (len(row), row):
                    self.assertFalse(unlike(chain, other, near), (chain, other, row, near))

    def test_no_shorter_row_of_any_numbers(self):
        for one, other, row in UNLIKE:
            chain, second = parse_chain(one), parse_chain(other)
            for seed in range(3):
                for drawn in by_hand.drawn_rows(30 + seed, 40, len(row) - 1):
                    self.assertFalse(unlike(chain, second, drawn), (one, other, drawn))

    def test_the_first_of_all_rows_of_three_and_four_numbers(self):
        for one, other, row in UNLIKE:
            if len(row) in (3, 4):
                chain, second = parse_chain(one), parse_chain(other)
                many = 2 * math.lcm(form(chain)[0], form(second)[0])
                first = next(short for short in by_hand.all_rows(range(many), 4)
                             if unlike(chain, second, short))
                self.assertEqual(parting(chain, second), first)

    def test_wrong_arguments(self):
        for value in samples.wrong_chains():
            for function in (same, parting):
                self.assert_raises(InvalidChain, function, value, S)
                self.assert_raises(InvalidChain, function, S, value)
                self.assert_raises(InvalidChain, function, value, value)


class MixTest(AssertErrors):
    def test_by_hand(self):
        self.assertEqual(mix(S, (2, 5)), ((0, (-6, 1)), (1, (7, 1))))
        self.assertEqual(mix(S, (1,)), ((1, (1, 1)),))
        self.assertEqual(mix(S, (4, -4)), ((0, (1, 1)),))
        self.assertEqual(mix(S, (MOST,)), ((0, (1 - MOST, 1)), (1, (MOST, 1))))
        self.assertEqual(mix((("keep", 2, 0), ("line", 3, 0), ("sums",)), (1, 3, 6)),
                         ((0, (-2, 1)), (1, (3, 1))))
        self.assertEqual(mix((("turn", 3, 1, 2, 2), ("sums",)), (2, 5)),
                         ((0, (-3, 4)), (1, (7, 4))))
        self.assertEqual(mix((("groups", 2),), (8, 9, -4)), ((1, (5, 1)), (2, (-4, 1))))

    def test_behind_the_empty_row(self):
        for chain in form_chains():
            self.assertEqual(mix(chain, ()), ((0, (1, 1)),) if form(chain)[2] else (), chain)

    def test_no_basis_rows(self):
        for text in ("line 0 0", "keep 2 0 | keep 2 1", "groups 2 | line 0 0"):
            for row in ((), (3,), (1, 2, 3)):
                self.assertEqual(mix(parse_chain(text), row), ())

    def test_as_the_form_is_read(self):
        rows = by_hand.drawn_rows(23, 2, 9) + by_hand.drawn_rows(24, 1, 60, MOST)
        rows += [(MOST,) * 60, (-MOST,) * 59]
        for chain in form_chains():
            found = form(chain)
            for row in rows:
                _, group, weights = reading.read(found, row)
                told = mix(chain, row)
                self.assertEqual(told, reading.as_mix(weights), chain)
                self.assertTrue(all(found[2][at][1] == group for at, _ in told), chain)

    def test_weights_tell_what_comes_behind(self):
        probes = by_hand.drawn_rows(25, 4, 8, 50)
        for chain in form_chains():
            basis = form(chain)[2]
            for row in by_hand.drawn_rows(26, 1, 7) + by_hand.drawn_rows(27, 1, 11, MOST):
                self.assertTrue(by_hand.is_mix(chain, row, mix(chain, row), basis, probes), chain)

    def test_basis_rows_are_told_by_themselves(self):
        for chain in form_chains()[::4]:
            for at, (row, _) in list(enumerate(form(chain)[2]))[::5]:
                self.assertEqual(mix(chain, row), ((at, (1, 1)),), chain)

    def test_kinds_of_values(self):
        for chain in form_chains():
            told = mix(chain, (5, -8, 3, MOST))
            self.assertIs(type(told), tuple)
            self.assertEqual(list(told), sorted(told))
            for at, (top, bottom) in told:
                self.assertTrue(type(at) is type(top) is type(bottom) is int)
                self.assertTrue(top != 0 and bottom > 0 and math.gcd(top, bottom) == 1)

    def test_wrong_arguments(self):
        for row in samples.wrong_rows():
            self.assert_raises(InvalidRow, mix, S, row)
        for value in samples.wrong_chains():
            self.assert_raises(InvalidChain, mix, value, (1, 2))
            self.assert_raises(InvalidChain, mix, value, [1, 2])

    def test_60_and_61_numbers(self):
        self.assertEqual(mix(S, (1,) * 60), ((0, (-59, 1)), (1, (60, 1))))
        self.assert_raises(InvalidRow, mix, S, (1,) * 61)
        self.assert_raises(InvalidRow, mix, S, (MOST + 1,))


def form_chains():
    return samples.without_repeats(
        chains_at_hand() + samples.drawn_chains(28, 60) + list(samples.GREAT[1:6:2]))


class CountsTest(AssertErrors):
    def test_sizes_by_hand(self):
        for text, many in (("", (1,)), ("sums", (2,)), ("line 0 0", (0,)), ("keep 2 1", (1,)),
                           ("every 3 1", (1, 1, 1)), ("groups 2", (1, 2)), ("groups 3", (1, 2, 2)),
                           ("groups 2 | line 0 0", (0, 0)), ("sums | sums", (3,)),
                           ("keep 3 0 | keep 3 1", (0,)), ("every 2 1 | sums", (2, 2)),
                           ("every 2 1 | line 0 0", (0, 0)), ("gaps | sums", (1,))):
            self.assertEqual(sizes(parse_chain(text)), many, text)

    def test_sizes_by_forms(self):
        for chain in form_chains():
            _, counts, basis, _ = form(chain)
            groups = [group for _, group in basis]
            self.assertEqual(sizes(chain), tuple(map(groups.count, range(len(counts)))), chain)

    def test_how_many_are_given_by_hand(self):
        for text in ("keep 2 0 | keep 2 1", "line 2 0 | keep 2 1", "keep 3 1 | sums | keep 2 0 | line 1 1",
                     "turn 3 0 0 1 | keep 3 0", "line 3 1 | sums | count | keep 3 1",
                     "groups 2 | line 2 1 | keep 2 0", "keep 2 1 | twice | groups 2 | keep 2 1"):
            nothing = text not in ("keep 3 1 | sums | keep 2 0 | line 1 1",
                                   "line 3 1 | sums | count | keep 3 1")
            self.assertIs(gives_nothing(parse_chain(text)), nothing, text)
            self.assertIs(gives_as_many(parse_chain(text)), False, text)
        for text in ("", "sums", "line 0 0", "count | anew 3 1 | turn 2 0 0 0 | line 2 1",
                     "twice | every 2 1", "twice | groups 2", "line 2 1 | keep 2 1",
                     "turn 2 1 3 1 | keep 2 0", "gaps | anew 2 0"):
            self.assertIs(gives_as_many(parse_chain(text)), True, text)
            self.assertIs(gives_nothing(parse_chain(text)), False, text)
        # As many in all behind each two numbers, but not one for each.
        for text in ("twice | groups 3", "every 2 0 | twice", "twice", "keep 2 0", "groups 2",
                     "every 3 2 | every 3 2 | every 3 2 | every 3 2"):
            self.assertIs(gives_as_many(parse_chain(text)), False, text)
            self.assertIs(gives_nothing(parse_chain(text)), False, text)

    def test_how_many_are_given_by_counts_and_rows(self):
        rows = by_hand.drawn_rows(29, 2, 120)
        for chain in form_chains():
            many = {given for line in form(chain)[1] for given, _ in line}
            self.assertIs(gives_nothing(chain), many == {0}, chain)
            self.assertIs(gives_as_many(chain), many == {1}, chain)
            seen = {len(given) for row in rows for given in by_hand.told(chain, row)}
            self.assertIs(gives_nothing(chain), seen == {0}, chain)
            self.assertIs(gives_as_many(chain), seen == {1}, chain)

    def test_they_give_booleans(self):
        for chain in form_chains():
            self.assertIs(type(gives_nothing(chain)), bool)
            self.assertIs(type(gives_as_many(chain)), bool)

    def test_wrong_arguments(self):
        for value in samples.wrong_chains():
            for function in (sizes, gives_nothing, gives_as_many):
                self.assert_raises(InvalidChain, function, value)


class LooseTest(AssertErrors):
    def test_by_hand(self):
        for text, spare, left, pairs in LOOSE:
            with self.subTest(text=text):
                chain = parse_chain(text)
                self.assertEqual(needless(chain), spare)
                self.assertEqual(thinned(chain), parse_chain(left))
                self.assertEqual(exchangeable(chain), pairs)

    def test_against_same_of_the_changed_chains(self):
        for chain in form_chains():
            found = form(chain)
            many = range(len(chain))
            spare = tuple(at for at in many if form(chain[:at] + chain[at + 1:]) == found)
            self.assertEqual(needless(chain), spare, chain)
            pairs = tuple(at for at in many[:-1]
                          if form(chain[:at] + chain[at:at + 2][::-1] + chain[at + 2:]) == found)
            self.assertEqual(exchangeable(chain), pairs, chain)

    def test_thinned_once_through(self):
        for chain in form_chains():
            kept = list(chain)
            at = 0
            for step in chain:
                self.assertEqual(kept[at], step)
                fewer = kept[:at] + kept[at + 1:]
                if same(tuple(fewer), chain):
                    kept = fewer
                else:
                    at += 1
            self.assertEqual(thinned(chain), tuple(kept), chain)
            self.assertTrue(same(thinned(chain), chain))

    def test_changed_chains_give_the_same_for_rows(self):
        rows = by_hand.drawn_rows(31, 3, 25)
        for chain in form_chains():
            changed = [thinned(chain)]
            changed += [chain[:at] + chain[at + 1:] for at in needless(chain)]
            changed += [chain[:at] + (chain[at + 1], chain[at]) + chain[at + 2:]
                        for at in exchangeable(chain)]
            for other in changed:
                for row in rows:
                    self.assertEqual(run(other, row), run(chain, row), (chain, other))

    def test_wrong_arguments(self):
        for value in samples.wrong_chains():
            for function in (needless, thinned, exchangeable):
                self.assert_raises(InvalidChain, function, value)


class JoinedTest(AssertErrors):
    def test_by_hand(self):
        line = ("line", 1, 1)
        self.assertEqual(joined((), ()), ())
        self.assertEqual(joined(S, ()), S)
        self.assertEqual(joined((), S), S)
        self.assertEqual(joined((line,), S), (line, ("sums",)))
        self.assertEqual(joined(S, (line,)), (("sums",), line))
        self.assertEqual(joined((line,) * 3, (("twice",),)), (line,) * 3 + (("twice",),))
        self.assertEqual(joined(S, S), S + S)

    def test_too_many(self):
        line = ("line", 1, 1)
        for chain, other in (
            ((line,) * 4, (line,)), ((line,), (line,) * 4), ((line,) * 4, (line,) * 4),
            ((line,) * 3, (line,) * 2), (S + S, S), (S, S + S), (S + S, (("count",),)),
            ((("anew", 2, 0), ("gaps",)), (("groups", 2),)), ((("twice",),), (("twice",),)),
            ((("keep", 2, 0), ("turn", 2, 0, 1, 1)), (("anew", 2, 0),)),
            ((("keep", 2, 0),), (("keep", 2, 0), ("keep", 3, 0))),
        ):
            self.assert_raises(TooMany, joined, chain, other)

    def test_every_pair(self):
        chains = chains_at_hand()
        for chain in chains:
            for other in chains:
                if is_chain(chain + other):
                    self.assertEqual(joined(chain, other), chain + other)
                else:
                    self.assert_raises(TooMany, joined, chain, other)

    def test_runs_one_behind_the_other(self):
        for chain, other in combinations([c for c in chains_at_hand() if len(c) < 3], 2):
            if is_chain(chain + other):
                given = run(other, run(chain, (1, -2, 3, 4, 0, 7)))
                self.assertEqual(run(joined(chain, other), (1, -2, 3, 4, 0, 7)), given)

    def test_wrong_arguments(self):
        four = (("line", 1, 1),) * 4
        for value in samples.wrong_chains():
            self.assert_raises(InvalidChain, joined, value, S)
            self.assert_raises(InvalidChain, joined, S, value)
            self.assert_raises(InvalidChain, joined, value, four)
            self.assert_raises(InvalidChain, joined, four, value)


class PureTest(AssertErrors):
    def test_equal_arguments_give_equal_results(self):
        functions = (sizes, gives_nothing, gives_as_many, needless, thinned, exchangeable)
        for chain in samples.drawn_chains(32, 25):
            again = tuple(tuple(step) for step in list(chain))
            first = [function(chain) for function in functions]
            first += [same(chain, S), parting(chain, S), mix(chain, (3, 1))]
            second = [function(again) for function in functions]
            second += [same(again, S), parting(again, S), mix(again, tuple([3, 1]))]
            self.assertEqual(first, second)

    def test_arguments_are_not_changed(self):
        for value in ([("sums",)], (["sums"],), {"sums": [1]}, [["keep", 2, 0]]):
            before = copy.deepcopy(value)
            for function in (sizes, gives_nothing, gives_as_many, needless, thinned, exchangeable):
                self.assert_raises(InvalidChain, function, value)
            for function in (same, parting, joined):
                self.assert_raises(InvalidChain, function, S, value)
            self.assert_raises(InvalidRow, mix, S, value)
            self.assertEqual(value, before)


if __name__ == "__main__":
    unittest.main()

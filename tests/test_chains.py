"""Points 2.1 to 2.3, 3 and 4: what is a chain."""

import copy
import unittest
from itertools import product

import chain_samples as samples
from foldchains.chains import is_chain

# The least and the greatest value of each number of each kind, and one beyond each.
EDGES = (
    ("line", (("line", -3, 0), ("line", 3, 0), ("line", 0, -9), ("line", 0, 9),
              ("line", -3, -9), ("line", 3, 9)),
     (("line", -4, 0), ("line", 4, 0), ("line", 0, -10), ("line", 0, 10))),
    ("turn", (("turn", 2, 0, 0, 0), ("turn", 2, 1, 0, 0), ("turn", 3, 0, 0, 0),
              ("turn", 3, 2, 0, 0), ("turn", 2, 0, -3, 0), ("turn", 2, 0, 3, 0),
              ("turn", 2, 0, 0, -9), ("turn", 2, 0, 0, 9)),
     (("turn", 1, 0, 0, 0), ("turn", 4, 0, 0, 0), ("turn", 2, -1, 0, 0), ("turn", 2, 2, 0, 0),
      ("turn", 3, -1, 0, 0), ("turn", 3, 3, 0, 0), ("turn", 2, 0, -4, 0), ("turn", 2, 0, 4, 0),
      ("turn", 2, 0, 0, -10), ("turn", 2, 0, 0, 10))),
    ("keep", (("keep", 2, 0), ("keep", 2, 1), ("keep", 3, 0), ("keep", 3, 2)),
     (("keep", 1, 0), ("keep", 4, 0), ("keep", 4, 3), ("keep", 2, -1), ("keep", 2, 2),
      ("keep", 3, -1), ("keep", 3, 3))),
    ("every", (("every", 2, 0), ("every", 2, 1), ("every", 3, 0), ("every", 3, 2)),
     (("every", 1, 0), ("every", 4, 0), ("every", 4, 3), ("every", 2, -1), ("every", 2, 2),
      ("every", 3, -1), ("every", 3, 3))),
    ("twice", (("twice",),), (("twice", 0), ("twice", 2))),
    ("sums", (("sums",),), (("sums", 0), ("sums", 2))),
    ("anew", (("anew", 2, 0), ("anew", 2, 1), ("anew", 3, 0), ("anew", 3, 2)),
     (("anew", 1, 0), ("anew", 4, 0), ("anew", 4, 3), ("anew", 2, -1), ("anew", 2, 2),
      ("anew", 3, -1), ("anew", 3, 3))),
    ("gaps", (("gaps",),), (("gaps", 0), ("gaps", 2))),
    ("groups", (("groups", 2), ("groups", 3)), (("groups", 1), ("groups", 4), ("groups", -2))),
    ("count", (("count",),), (("count", 0), ("count", 2))),
)

# How many numbers each kind has, and all values for each that could be mistaken for allowed ones.
SPANS = {
    "line": (range(-6, 7), range(-12, 13)),
    "turn": (range(-1, 6), range(-2, 6), range(-4, 5), (-10, -9, 0, 9, 10)),
    "keep": (range(-4, 7), range(-4, 7)),
    "every": (range(-4, 7), range(-4, 7)),
    "anew": (range(-4, 7), range(-4, 7)),
    "groups": (range(-6, 9),),
}


class StepsTest(unittest.TestCase):
    def check_step(self, step, right):
        self.assertIs(is_chain((step,)), right, step)
        self.assertIs(is_chain((("line", 1, 0), step)), right, step)

    def test_edges_of_each_number(self):
        self.assertEqual([name for name, _, _ in EDGES], list(samples.KINDS))
        for name, within, beyond in EDGES:
            for step in within:
                self.check_step(step, True)
            for step in beyond:
                self.check_step(step, False)

    def test_every_step(self):
        steps = samples.all_steps()
        self.assertEqual(len(set(steps)), 7 * 19 * 6 + 15 + 6)
        for step in steps:
            self.check_step(step, True)

    def test_every_step_near_the_bounds(self):
        steps = {step: True for step in samples.all_steps()}
        for name, spans in SPANS.items():
            for numbers in product(*spans):
                step = (name,) + numbers
                self.check_step(step, step in steps)

    def test_a_number_far_out_of_the_bounds(self):
        for step in samples.KINDS.values():
            for at in range(1, len(step)):
                for number in (100, -100, 10 ** 5000, -10 ** 5000):
                    self.check_step(step[:at] + (number,) + step[at + 1:], False)

    def test_a_number_missing_or_too_many(self):
        for step in samples.all_steps():
            for at in range(1, len(step)):
                self.check_step(step[:at], False)
                self.check_step(step[:at] + step[at + 1:], False)
            for number in (0, 1, 2):
                self.check_step(step + (number,), False)
                self.check_step(step + (number, number), False)
                self.check_step(step[:1] + (number,) + step[1:], False)
            for number in (None, True, "", ()):
                self.check_step(step + (number,), False)

    def test_no_integer_in_place_of_a_number(self):
        for step in samples.KINDS.values():
            for at in range(1, len(step)):
                for number in samples.NO_NUMBERS:
                    self.check_step(step[:at] + (number,) + step[at + 1:], False)

    def test_booleans_and_floats_that_equal_a_number(self):
        for step in (("line", True, 0), ("line", 0, True), ("line", 1, False),
                     ("turn", 2, True, 1, 1), ("turn", 2, 0, True, 1), ("turn", 2, 0, 1, True),
                     ("keep", 2, True), ("keep", 2, False), ("every", 2, True),
                     ("every", 2, False), ("anew", 2, True), ("anew", 2, False),
                     ("line", 1.0, 0), ("line", 1, 0.0), ("turn", 2.0, 0, 1, 1),
                     ("keep", 2.0, 0), ("keep", 2, 1.0), ("every", 3.0, 0), ("every", 3, 0.0),
                     ("anew", 2.0, 0), ("anew", 2, 0.0), ("groups", 2.0), ("groups", 3.0)):
            self.check_step(step, False)

    def test_an_unknown_name(self):
        for name in ("", "LINE", "Sums", "sum", "sumss", " sums", "sums ", "lines", "row", "none"):
            for numbers in ((), (2,), (2, 0), (2, 0, 1, 1)):
                self.check_step((name,) + numbers, False)

    def test_no_string_in_place_of_the_name(self):
        for name in (None, True, False, 0, 1, 2, 1.5, b"sums", ("sums",), ["sums"], {"sums": 1}):
            for numbers in ((), (2,), (2, 0), (2, 0, 1, 1)):
                self.check_step((name,) + numbers, False)

    def test_the_name_of_another_kind(self):
        for name, step in samples.KINDS.items():
            for other, other_step in samples.KINDS.items():
                if len(step) != len(other_step):
                    self.check_step((name,) + other_step[1:], False)
        self.check_step(("turn", 2, 0), False)
        self.check_step((2, 0, "keep"), False)
        self.check_step((2, "keep", 0), False)

    def test_no_tuple_in_place_of_a_step(self):
        for step in samples.KINDS.values():
            for value in (list(step), {step: step}, {part: 0 for part in step}, step[0],
                          " ".join(map(str, step)), (step,), [step]):
                self.check_step(value, False)

    def test_a_step_without_anything_in_it(self):
        for value in ((), [], {}, ""):
            self.check_step(value, False)


class ChainsTest(unittest.TestCase):
    def test_no_steps_and_one(self):
        self.assertIs(is_chain(()), True)
        self.assertIs(is_chain((("sums",),)), True)
        self.assertIs(is_chain((("keep", 2, 0), ("sums",))), True)

    def test_four_steps_and_five(self):
        for step in (("line", 1, 0), ("every", 2, 0)):
            for many in range(8):
                self.assertIs(is_chain((step,) * many), many <= 4)
        mixed = (("keep", 2, 0), ("sums",), ("twice",), ("turn", 3, 2, -3, 9))
        self.assertIs(is_chain(mixed), True)
        for step in samples.KINDS.values():
            self.assertIs(is_chain(mixed + (step,)), False)

    def test_limits_kept_exactly(self):
        for chain in samples.AT_LIMITS:
            self.assertIs(is_chain(chain), True, chain)

    def test_limits_passed_by_one(self):
        for chain in samples.BEYOND_LIMITS:
            self.assertIs(is_chain(chain), False, chain[:5])

    def test_every_sequence_of_kinds(self):
        for many in range(5):
            for names in samples.name_rows(many):
                chain = tuple(samples.KINDS[name] for name in names)
                self.assertIs(is_chain(chain), samples.allowed(names), chain)

    def test_one_wrong_step_anywhere(self):
        for many in range(1, 5):
            for at in range(many):
                for wrong in (("line", 4, 0), (), None, "sums", ["sums"]):
                    steps = [("line", 1, 0)] * many
                    steps[at] = wrong
                    self.assertIs(is_chain(tuple(steps)), False)

    def test_no_tuple_in_place_of_the_chain(self):
        for chain in samples.AT_LIMITS + ((),):
            for value in (list(chain), {step: 0 for step in chain}, dict(enumerate(chain))):
                self.assertIs(is_chain(value), False, value)

    def test_a_step_in_place_of_the_chain(self):
        for step in samples.KINDS.values():
            self.assertIs(is_chain(step), False)
            self.assertIs(is_chain(((step,),)), False)

    def test_strings_and_numbers(self):
        for value in ("", "sums", "keep 2 0 | sums", "()", 0, 1, -1, 10 ** 5000, b"", b"sums"):
            self.assertIs(is_chain(value), False)

    def test_other_values(self):
        for value in samples.wrong_anywhere():
            self.assertIs(is_chain(value), False, value)
        for value in (object(), object, len, {1, 2}, frozenset(), range(0), iter(()), Ellipsis):
            self.assertIs(is_chain(value), False, value)

    def test_other_values_in_place_of_a_step_and_of_a_number(self):
        for value in samples.wrong_anywhere():
            self.assertIs(is_chain((("sums",), value)), False, value)
            self.assertIs(is_chain((("keep", 2, value),)), False, value)
            self.assertIs(is_chain((("keep", value, 0),)), False, value)
            self.assertIs(is_chain(((value, 2, 0),)), False, value)


class PureTest(unittest.TestCase):
    def test_equal_arguments_give_equal_results(self):
        for chain in samples.AT_LIMITS + samples.BEYOND_LIMITS:
            first = is_chain(chain)
            is_chain([chain])
            self.assertIs(is_chain(tuple(tuple(step) for step in chain)), first)

    def test_arguments_are_not_changed(self):
        for value in ([("sums",)], (["sums"],), {"sums": [1, 2]}, (("keep", [2], {0: 0}),),
                      [["keep", 2, 0], ["sums"]], [3, 2, 1]):
            before = copy.deepcopy(value)
            is_chain(value)
            self.assertEqual(value, before)


if __name__ == "__main__":
    unittest.main()

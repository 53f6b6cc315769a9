"""Points 1, 3 and 4: chains as texts, and back."""

import copy
import unittest

import chain_samples as samples
from foldchains.chains import is_chain
from foldchains.errors import InvalidChain, InvalidText
from foldchains.texts import format_chain, parse_chain

WRITTEN = (
    ((), ""),
    ((("keep", 2, 0), ("sums",)), "keep 2 0 | sums"),
    ((("line", -3, -9),), "line -3 -9"),
    ((("line", 0, 0),), "line 0 0"),
    ((("line", 3, 9),), "line 3 9"),
    ((("turn", 2, 1, -1, -5),), "turn 2 1 -1 -5"),
    ((("turn", 3, 2, 3, -9),), "turn 3 2 3 -9"),
    ((("keep", 3, 2),), "keep 3 2"),
    ((("every", 2, 1),), "every 2 1"),
    ((("twice",),), "twice"),
    ((("sums",),), "sums"),
    ((("anew", 3, 0),), "anew 3 0"),
    ((("gaps",),), "gaps"),
    ((("groups", 3),), "groups 3"),
    ((("count",),), "count"),
    ((("line", -2, 7), ("twice",), ("every", 3, 2), ("gaps",)),
     "line -2 7 | twice | every 3 2 | gaps"),
    ((("sums",), ("sums",)), "sums | sums"),
    ((("anew", 2, 0), ("anew", 2, 1), ("line", 1, -1)), "anew 2 0 | anew 2 1 | line 1 -1"),
)

BLANKS = (
    " ", "  ", " sums", "sums ", "  sums", "sums  ", "keep  2 0", "keep 2  0", " keep 2 0",
    "keep 2 0 ", "keep2 0", "keep 20", "keep20", "line -3-9", "line - 3 0", "line 1 0 ",
    "keep\t2 0", "keep 2\n0", "sums\n", "\nsums", "sums\t", "\tsums", "sums\r\n",
    "keep\u00a02 0", "keep\u20032 0", "sums\u00a0", "\ufeffsums", "sums\x00", "keep 2 0\x0b",
)

SEPARATORS = (
    "|", " |", "| ", " | ", "||", " || ", " |  | ", " | | ",
    "sums |", "sums | ", "sums|", " | sums", "| sums", "|sums",
    "sums | | gaps", "sums |  | gaps", "sums || gaps", "sums | | | gaps",
    "sums|gaps", "sums |gaps", "sums| gaps", "sums  | gaps", "sums |  gaps", "sums  |  gaps",
    "sums gaps", "sumsgaps", "sums  gaps", "sums , gaps", "sums / gaps", "sums \n gaps",
    "sums\t|\tgaps", "sums\n|\ngaps", "sums \u2502 gaps", "keep 2 0 sums", "keep 2 0| sums",
    "keep 2 0 |sums", "keep 2 | 0", "line | 1 0", "sums\u00a0|\u00a0gaps",
)

NAMES = (
    "sum", "sumss", "Sums", "SUMS", "sumS", "lines 1 0", "Line 1 0", "LINE 1 0", "l 1 0",
    "groups", "group 2", "Groups 2", "counts", "none", "None", "0", "2 0", "2 0 keep", "()",
    "('sums',)", "((\"sums\",),)", "\u0455ums", "su\u200dms", "\uff53ums", "sums()", "sums,",
)

NUMBERS = (
    "line -0 0", "line 0 -0", "line 01 0", "line 1 00", "line 1 -01", "line 1 09", "line +1 0",
    "line 1 +1", "line 1_0 0", "line 1 0_1", "line 1 _1", "line 1. 0", "line 1.0 0", "line 1 0.0",
    "line 1e0 0", "line 0x1 0", "line 0b1 0", "line 1 0o7", "line 1L 0", "line --1 0",
    "line 1 - 1", "line 1 1-", "line one 0", "line True 0", "line 1 False", "line None 0",
    "line \u0661 0", "line 1 \u0967", "line \uff11 0", "line 1 \u00b2", "line \u22121 0",
    "line 1 \u2460", "keep \u0662 0", "keep 02 0", "keep 2 00", "keep 2 -0", "keep +2 0",
    "turn 2 0 1 +5", "turn 2 0 -0 1", "every 2 01", "anew 03 1", "groups 02", "groups +2",
    "groups 2.0", "groups \u0663", "line a b", "keep m r", "line '1' 0", "line 1, 0",
)

OUT_OF_BOUNDS = (
    "line -4 0", "line 4 0", "line 0 -10", "line 0 10", "turn 1 0 0 0", "turn 4 0 0 0",
    "turn 2 2 0 0", "turn 3 3 0 0", "turn 2 -1 0 0", "turn 2 0 4 0", "turn 2 0 -4 0",
    "turn 2 0 0 10", "turn 2 0 0 -10", "keep 1 0", "keep 4 0", "keep 2 2", "keep 3 3",
    "keep 2 -1", "every 1 0", "every 4 0", "every 2 2", "every 3 3", "every 2 -1", "anew 1 0",
    "anew 4 0", "anew 2 2", "anew 3 3", "anew 2 -1", "groups 1", "groups 4", "groups -2",
    "line 1 100", "line 1", "line 1 0 0", "line", "turn 2 0 1", "turn 2 0 1 1 1", "keep 2",
    "keep 2 0 0", "every 2", "twice 2", "sums 0", "anew 2", "gaps 1", "groups 2 2", "count 1",
)

TOO_LONG = (
    " | ".join(["sums"] * 5000), " | ".join(["line 1 0"] * 5000), " | ".join(["line 1 0"] * 5),
    " | " * 5000, "|" * 5000, " " * 5000, "sums" * 5000, "sums " * 5000, "s" * 100000,
    "line 1 " + "1" * 5000, "line 1 " + "0" * 5000, "line 1 " + "0" * 5000 + "1",
    "line " + "9" * 100000 + " 0", "line 1 -" + "1" * 5000, "line 1 -" + "0" * 5000,
    "line 1 +" + "0" * 5000 + "1", "groups " + "2" * 4301, "groups " + "0" * 4301 + "2",
    "keep 2 " + "0" * 20000, "turn 2 0 1 " + "7" * 20000, "line 1" + " 0" * 5000,
    "line 1 " + "1_" * 3000 + "1", "line 1 " + "\u0661" * 5000,
    " | ".join(["line " + "1" * 5000 + " 0"] * 3000), "sums\n" * 5000,
)


class FormatTest(unittest.TestCase):
    def test_written_texts(self):
        for chain, text in WRITTEN:
            self.assertEqual(format_chain(chain), text)
            self.assertIs(type(format_chain(chain)), str)

    def test_every_step(self):
        for step in samples.all_steps():
            text = step[0]
            for number in step[1:]:
                text += " " + ("-" if number < 0 else "") + "0123456789"[abs(number)]
            self.assertEqual(format_chain((step,)), text)
            self.assertEqual(format_chain((step, ("line", -1, 2))), text + " | line -1 2")

    def test_no_two_chains_have_one_text(self):
        chains = samples.kind_chains() + [(step,) for step in samples.all_steps()]
        self.assertEqual(len({format_chain(chain) for chain in chains}), len(set(chains)))

    def test_what_is_no_chain(self):
        wrong = samples.wrong_anywhere() + list(samples.BEYOND_LIMITS)
        wrong += [[], "", "sums", 0, 10 ** 5000, b"sums", [("sums",)], ("sums",), ((("sums",),),),
                  (("line", 4, 0),), (("line", True, 0),), (("line", 1.0, 0),),
                  (("line", 10 ** 5000, 0),), (("keep", 2, 2),), (("every", 2),), (("none",),)]
        for value in wrong:
            with self.assertRaises(InvalidChain):
                format_chain(value)


class ParseTest(unittest.TestCase):
    def check_wrong(self, texts):
        for at, text in enumerate(texts):
            # Only a string is shown: Python refuses to write out a number of 5000 digits.
            shown = text[:60] if isinstance(text, str) else ""
            with self.subTest(at=at, text=shown), self.assertRaises(InvalidText):
                parse_chain(text)

    def check_parsed(self, chain):
        found = parse_chain(format_chain(chain))
        self.assertEqual(found, chain)
        self.assertIs(type(found), tuple)
        for step in found:
            self.assertIs(type(step), tuple)
            self.assertIs(type(step[0]), str)
            self.assertTrue(all(type(number) is int for number in step[1:]), step)

    def test_written_texts(self):
        for chain, text in WRITTEN:
            self.assertEqual(parse_chain(text), chain)

    def test_leads_back_from_every_step(self):
        for step in samples.all_steps():
            self.check_parsed((step,))

    def test_leads_back_from_every_sequence_of_kinds(self):
        for chain in samples.kind_chains() + list(samples.AT_LIMITS):
            self.check_parsed(chain)

    def test_what_is_no_string(self):
        self.check_wrong(samples.wrong_anywhere())
        self.check_wrong([(), (("sums",),), [], ["sums"], ("sums",), 0, 2, b"", b"sums",
                          {"sums": 0}, 10 ** 5000])

    def test_blanks(self):
        self.check_wrong(BLANKS)

    def test_separators(self):
        self.check_wrong(SEPARATORS)

    def test_names(self):
        self.check_wrong(NAMES)

    def test_numbers_written_otherwise(self):
        self.check_wrong(NUMBERS)

    def test_numbers_out_of_bounds_missing_or_too_many(self):
        self.check_wrong(OUT_OF_BOUNDS)

    def test_steps_that_are_no_chain(self):
        texts = [" | ".join(" ".join(map(str, step)) for step in chain)
                 for chain in samples.BEYOND_LIMITS]
        self.check_wrong(texts + ["sums | sums | sums", "twice | twice", "anew 2 0 | gaps | count",
                                  "anew 2 0 | keep 2 0 | turn 2 0 1 1"])

    def test_long_texts(self):
        self.check_wrong(TOO_LONG)

    def test_texts_that_differ_in_one_character(self):
        for text in ("keep 2 0 | sums", "line -3 9", "turn 3 2 -1 -9 | groups 2", "twice"):
            for at in range(len(text) + 1):
                for sign in ("", " ", "|", "-", "0", "1", "9", "s", "_", "+", "\n", "\u0661"):
                    for rest in (text[at:], text[at + 1:]):
                        self.check_near(text[:at] + sign + rest)

    def check_near(self, text):
        try:
            chain = parse_chain(text)
        except InvalidText:
            return
        self.assertTrue(is_chain(chain))
        self.assertEqual(format_chain(chain), text)


class PureTest(unittest.TestCase):
    def test_equal_arguments_give_equal_results(self):
        for chain, text in WRITTEN:
            again = "".join(list(text))
            self.assertEqual((format_chain(chain), parse_chain(again)), (text, chain))
            for wrong in (text + " ", [chain]):
                with self.assertRaises(InvalidText):
                    parse_chain(wrong)
                with self.assertRaises(InvalidChain):
                    format_chain(wrong)
            self.assertEqual((format_chain(chain), parse_chain(text)), (text, chain))

    def test_arguments_are_not_changed(self):
        for value in ([("sums",)], (["sums"],), {"sums": [1]}, [["keep", 2, 0]], [3, 2, 1]):
            before = copy.deepcopy(value)
            with self.assertRaises(InvalidChain):
                format_chain(value)
            with self.assertRaises(InvalidText):
                parse_chain(value)
            self.assertEqual(value, before)


if __name__ == "__main__":
    unittest.main()

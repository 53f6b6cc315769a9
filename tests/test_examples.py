"""Every example of the document, word for word."""

import unittest

from foldchains.likeness import gives_as_many, mix, parting, sizes, thinned
from foldchains.running import run
from foldchains.tables import form
from foldchains.texts import format_chain

S = (("sums",),)


class ExamplesTest(unittest.TestCase):
    def test_texts(self):
        self.assertEqual(format_chain((("keep", 2, 0), ("sums",))), "keep 2 0 | sums")

    def test_run(self):
        self.assertEqual(run(S, (1, 2, 3)), (1, 3, 6))

    def test_form(self):
        self.assertEqual(
            form(S),
            (1, (((1, 0),),), (((), 0), ((1,), 0)), ((((0,), ((0, (1, 1)),)), ((1,), ((1, (1, 1)),))), (((1,), ((1, (1, 1)),)), ((2,), ((0, (-1, 1)), (1, (2, 1)))))))
        )

    def test_parting(self):
        self.assertEqual(parting(S, ()), (1, 0))

    def test_mix(self):
        self.assertEqual(mix(S, (2, 5)), ((0, (-6, 1)), (1, (7, 1))))

    def test_sizes(self):
        self.assertEqual(sizes(S), (2,))

    def test_gives_as_many(self):
        self.assertIs(gives_as_many(S), True)

    def test_thinned(self):
        self.assertEqual(thinned((("line", 1, 0), ("sums",))), S)


if __name__ == "__main__":
    unittest.main()

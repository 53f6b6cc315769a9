"""Points 1, 3 and 7: feeds."""

import unittest
from random import Random

import by_hand
import chain_samples as samples
from foldchains.errors import InvalidChain, InvalidNumber, NothingToUndo, TooMany
from foldchains.feeds import Feed
from foldchains.running import run

S = (("sums",),)
MOST = 10 ** 30

WRONG_NUMBERS = (
    True, False, None, 0.0, 1.0, 2.5, float("nan"), float("inf"), "", "1", b"1", (), (1,), [],
    [1], {}, {1: 1}, MOST + 1, -MOST - 1, 10 ** 5000, -10 ** 5000, 1 + 0j,
)


class Model:
    """What a feed is, worked out from its whole row each time."""

    def __init__(self, chain):
        self.chain = chain
        self.row = ()
        self.undone = ()

    def last_given(self):
        return by_hand.told(self.chain, self.row)[-1]

    def put(self, number):
        self.row, self.undone = self.row + (number,), ()
        return self.last_given()

    def undo(self):
        given = self.last_given()
        self.row, self.undone = self.row[:-1], self.undone + self.row[-1:]
        return given

    def redo(self):
        self.row, self.undone = self.row + self.undone[-1:], self.undone[:-1]
        return self.last_given()


class AssertFeeds(unittest.TestCase):
    def assert_raises(self, error, function, *arguments):
        with self.assertRaises(error) as caught:
            function(*arguments)
        self.assertIs(type(caught.exception), error)

    def assert_holds(self, feed, chain, row):
        self.assertEqual((feed.row(), feed.given(), len(feed)), (row, run(chain, row), len(row)))
        for value in (feed.row(), feed.given()):
            self.assertIs(type(value), tuple)
        self.assertIs(type(len(feed)), int)


def fed(chain, row):
    feed = Feed(chain)
    for number in row:
        feed.put(number)
    return feed


class FeedTest(AssertFeeds):
    def test_a_new_feed(self):
        for chain in ((), S, (("keep", 2, 0), ("sums",))):
            feed = Feed(chain)
            self.assert_holds(feed, chain, ())
            self.assert_raises(NothingToUndo, feed.undo)
            self.assert_raises(NothingToUndo, feed.redo)
            self.assert_holds(feed, chain, ())

    def test_by_hand(self):
        feed = Feed((("keep", 2, 0), ("twice",), ("sums",)))
        self.assertEqual(feed.put(4), (4, 8))
        self.assertEqual(feed.put(3), ())
        self.assertEqual(feed.put(-2), (6, 4))
        self.assertEqual((feed.row(), feed.given(), len(feed)), ((4, 3, -2), (4, 8, 6, 4), 3))
        self.assertEqual(feed.undo(), (6, 4))
        self.assertEqual(feed.undo(), ())
        self.assertEqual((feed.row(), feed.given(), len(feed)), ((4,), (4, 8), 1))
        self.assertEqual(feed.redo(), ())
        self.assertEqual(feed.redo(), (6, 4))
        self.assert_raises(NothingToUndo, feed.redo)
        self.assertEqual((feed.row(), feed.given()), ((4, 3, -2), (4, 8, 6, 4)))
        self.assertEqual(feed.undo(), (6, 4))
        self.assertEqual(feed.put(6), (14, 20))
        self.assert_raises(NothingToUndo, feed.redo)
        self.assertEqual((feed.row(), feed.given()), ((4, 3, 6), (4, 8, 14, 20)))

    def test_numbers_are_given_as_for_the_whole_row(self):
        for chain in samples.kind_chains()[::7]:
            row = (3, -4, 6, 0, MOST, 7, 1, -MOST, 2, 5, 9, -1)
            feed = Feed(chain)
            for number, given in zip(row, by_hand.told(chain, row)):
                told = feed.put(number)
                self.assertEqual((type(told), told), (tuple, given), chain)
            self.assert_holds(feed, chain, row)

    def test_undo_and_redo_all(self):
        for chain in samples.drawn_chains(41, 60) + list(samples.GREAT):
            for row in by_hand.drawn_rows(42, 1, 14):
                feed, told = fed(chain, row), by_hand.told(chain, row)
                for many in range(len(row) - 1, -1, -1):
                    self.assertEqual(feed.undo(), told[many], chain)
                    self.assert_holds(feed, chain, row[:many])
                self.assert_raises(NothingToUndo, feed.undo)
                for many in range(len(row)):
                    self.assertEqual(feed.redo(), told[many], chain)
                    self.assert_holds(feed, chain, row[:many + 1])
                self.assert_raises(NothingToUndo, feed.redo)

    def test_drawn_sequences_of_calls(self):
        draw = Random(43)
        for chain in samples.drawn_chains(44, 40) + list(samples.GREAT):
            feed, model = Feed(chain), Model(chain)
            for _ in range(70):
                self.check_call(feed, model, draw)
                self.assert_holds(feed, chain, model.row)

    def check_call(self, feed, model, draw):
        name = draw.choice(("put", "put", "put", "wrong", "undo", "undo", "redo", "redo"))
        if name == "put":
            number = draw.choice((draw.randint(-9, 9), draw.randint(-MOST, MOST)))
            if len(model.row) < 60:
                self.assertEqual(feed.put(number), model.put(number))
        elif name == "wrong":
            self.assert_raises(InvalidNumber, feed.put, draw.choice(WRONG_NUMBERS))
        elif name == "undo" and model.row:
            self.assertEqual(feed.undo(), model.undo())
        elif name == "redo" and model.undone:
            self.assertEqual(feed.redo(), model.redo())
        else:
            self.assert_raises(NothingToUndo, getattr(feed, name))


class RedoTest(AssertFeeds):
    def test_after_a_put(self):
        feed = fed(S, (1, 2, 3))
        feed.undo()
        feed.undo()
        feed.put(7)
        self.assert_raises(NothingToUndo, feed.redo)
        self.assert_holds(feed, S, (1, 7))
        # What was taken back ahead of the put stays away, also behind an undo of the put.
        self.assertEqual(feed.undo(), (8,))
        self.assertEqual(feed.redo(), (8,))
        self.assert_raises(NothingToUndo, feed.redo)
        self.assert_holds(feed, S, (1, 7))

    def test_after_a_put_of_the_same_number(self):
        feed = fed(S, (1, 2, 3))
        feed.undo()
        feed.undo()
        feed.put(2)
        self.assert_raises(NothingToUndo, feed.redo)

    def test_after_a_put_that_raised(self):
        for number in WRONG_NUMBERS:
            feed = fed(S, (1, 2, 3))
            feed.undo()
            feed.undo()
            self.assert_raises(InvalidNumber, feed.put, number)
            self.assertEqual(feed.redo(), (3,))
            self.assert_raises(InvalidNumber, feed.put, number)
            self.assertEqual(feed.redo(), (6,))
            self.assert_holds(feed, S, (1, 2, 3))

    def test_after_several_undo(self):
        feed = fed(S, (1, 2, 3, 4))
        self.assertEqual([feed.undo() for _ in range(3)], [(10,), (6,), (3,)])
        self.assertEqual(feed.redo(), (3,))
        self.assertEqual(feed.undo(), (3,))
        self.assertEqual([feed.redo() for _ in range(3)], [(3,), (6,), (10,)])
        self.assert_raises(NothingToUndo, feed.redo)

    def test_after_calls_that_raised(self):
        feed = fed(S, (5,))
        feed.undo()
        self.assert_raises(NothingToUndo, feed.undo)
        self.assertEqual(feed.redo(), (5,))
        self.assert_raises(NothingToUndo, feed.redo)
        self.assertEqual(feed.undo(), (5,))
        self.assertEqual(feed.redo(), (5,))

    def test_looking_at_a_feed_changes_nothing(self):
        feed = fed(S, (1, 2, 3))
        feed.undo()
        for _ in range(3):
            self.assert_holds(feed, S, (1, 2))
            self.assertEqual(feed, fed(S, (1, 2)))
        self.assertEqual(feed.redo(), (6,))


class LimitsTest(AssertFeeds):
    def test_the_60th_and_the_61st_number(self):
        feed = fed(S, (1,) * 59)
        self.assertEqual(feed.put(1), (60,))
        self.assert_raises(TooMany, feed.put, 1)
        self.assert_holds(feed, S, (1,) * 60)
        self.assertEqual(feed.undo(), (60,))
        self.assertEqual(feed.put(-9), (50,))
        self.assert_raises(TooMany, feed.put, 0)
        self.assert_holds(feed, S, (1,) * 59 + (-9,))

    def test_numbers_that_were_taken_back_do_not_count(self):
        feed = fed((), range(60))
        for _ in range(60):
            feed.undo()
        for number in range(60):
            feed.put(number)
        self.assert_raises(TooMany, feed.put, 1)

    def test_redo_up_to_60_numbers_and_a_put_of_too_many(self):
        feed = fed(S, (2,) * 60)
        self.assert_raises(TooMany, feed.put, 5)
        self.assertEqual(feed.undo(), (120,))
        self.assertEqual(feed.undo(), (118,))
        self.assertEqual(feed.redo(), (118,))
        self.assertEqual(feed.redo(), (120,))
        self.assert_raises(NothingToUndo, feed.redo)
        self.assert_raises(TooMany, feed.put, 5)
        self.assert_holds(feed, S, (2,) * 60)

    def test_a_full_feed_of_what_gives_nothing(self):
        chain = (("keep", 2, 0), ("keep", 2, 1))
        feed = fed(chain, (1,) * 60)
        self.assert_raises(TooMany, feed.put, 1)
        self.assert_holds(feed, chain, (1,) * 60)

    def test_great_numbers(self):
        feed = fed(S, (MOST, MOST, -MOST, -MOST, -MOST))
        self.assertEqual(feed.given(), (MOST, 2 * MOST, MOST, 0, -MOST))

    def test_wrong_numbers(self):
        for row in ((), (1, 2), (3,) * 59):
            feed = fed(S, row)
            for number in WRONG_NUMBERS + tuple(samples.wrong_anywhere()):
                self.assert_raises(InvalidNumber, feed.put, number)
            self.assert_holds(feed, S, row)

    def test_a_wrong_number_ahead_of_too_many(self):
        feed = fed(S, (1,) * 60)
        for number in WRONG_NUMBERS:
            self.assert_raises(InvalidNumber, feed.put, number)
        self.assert_raises(TooMany, feed.put, 1)

    def test_what_is_no_chain(self):
        for value in samples.wrong_chains():
            self.assert_raises(InvalidChain, Feed, value)


class TwoFeedsTest(AssertFeeds):
    def test_by_turns(self):
        for chain in samples.drawn_chains(45, 20):
            for other in (chain, (("gaps",), ("twice",))):
                one, two = Feed(chain), Feed(other)
                for number in range(12):
                    one.put(number)
                    two.put(5 - number)
                    if number % 4 == 3:
                        one.undo()
                one.redo()
                self.assert_raises(NothingToUndo, two.redo)
                two.undo()
                self.assert_holds(one, chain, (0, 1, 2, 4, 5, 6, 8, 9, 10, 11))
                self.assert_holds(two, other, tuple(range(5, -6, -1)))

    def test_what_was_returned_stays(self):
        feed = fed(S, (1, 2))
        row, given = feed.row(), feed.given()
        feed.put(3)
        feed.undo()
        feed.undo()
        self.assertEqual((row, given), ((1, 2), (1, 3)))


class EqualityTest(unittest.TestCase):
    def check(self, one, other, right):
        self.assertIs(one == other, right)
        self.assertIs(other == one, right)
        self.assertIs(one != other, not right)

    def test_equal_chains_and_rows(self):
        for chain in ((), S, (("keep", 2, 0), ("count",))):
            for row in ((), (1,), (1, 2, 3)):
                self.check(fed(chain, row), fed(tuple(list(chain)), row), True)
        feed = fed(S, (1, 2))
        self.check(feed, feed, True)

    def test_unlike_rows(self):
        for row in ((), (1,), (2, 1), (1, 3), (1, 2, 3)):
            self.check(fed(S, (1, 2)), fed(S, row), False)

    def test_unlike_chains(self):
        for chain in ((), (("gaps",),), (("line", 1, 0), ("sums",)), S + S):
            self.check(fed(S, (1, 2)), fed(chain, (1, 2)), False)
            self.check(Feed(S), Feed(chain), False)

    def test_chains_that_give_the_same_are_still_unlike(self):
        self.check(fed((), (4,)), fed((("line", 1, 0),), (4,)), False)

    def test_what_was_taken_back_does_not_tell(self):
        feed = fed(S, (1, 2, 3))
        feed.undo()
        self.check(feed, fed(S, (1, 2)), True)
        feed.redo()
        self.check(feed, fed(S, (1, 2)), False)
        self.check(feed, fed(S, (1, 2, 3)), True)

    def test_other_values(self):
        feed = fed(S, (1, 2))
        for value in (S, (1, 2), (1, 3), [1, 2], (S, (1, 2)), "sums", 2, None, True, False, {}, 1.5,
                      object(), Feed, Model(S)):
            self.check(feed, value, False)
        self.check(Feed(()), (), False)


if __name__ == "__main__":
    unittest.main()

"""Promise 2: the round of each hand, and the stuck hands."""

import unittest

from stuckbell.waits import freed, stuck
from tests.kit import all_waits, mixed_waits, round_by_its_own, snapshot


class TestRounds(unittest.TestCase):
    def told(self, waits, rounds):
        before = snapshot(waits)
        self.assertEqual(freed(waits), rounds)
        for turn in freed(waits):
            self.assertIn(type(turn), (int, type(None)))
        lost = [hand for hand, turn in enumerate(rounds) if turn is None]
        self.assertEqual(stuck(waits), lost)
        self.assertEqual(snapshot(waits), before)

    def test_hands_that_go_on(self):
        self.told([None], [0])
        self.told([None, None, None], [0, 0, 0])

    def test_a_hand_that_waits_for_itself(self):
        self.told([("all", [0])], [None])
        self.told([("any", [0])], [None])
        self.told([None, ("all", [0, 1])], [0, None])
        self.told([None, ("any", [1, 0])], [0, 1])
        self.told([("any", [0, 1]), ("all", [0, 1])], [None, None])

    def test_all_takes_the_last_round(self):
        self.told([None, ("all", [0]), ("all", [1]), ("all", [0, 2, 1])], [0, 1, 2, 3])
        self.told([None, ("all", [0]), ("all", [0, 1])], [0, 1, 2])
        self.told([None, None, ("all", [1, 0])], [0, 0, 1])

    def test_any_takes_the_first_round(self):
        self.told([None, ("all", [0]), ("all", [1]), ("any", [2, 1])], [0, 1, 2, 2])
        self.told([None, ("all", [0]), ("all", [1]), ("any", [2, 0])], [0, 1, 2, 1])
        self.told([("any", [1, 2]), ("any", [2]), None], [1, 1, 0])

    def test_any_with_only_some_of_its_hands_freed(self):
        self.told([("any", [1, 2]), ("all", [1]), None], [1, None, 0])
        self.told([("any", [2, 1]), ("any", [0]), None], [1, 2, 0])
        self.told([("any", [0, 1]), ("all", [2]), None], [2, 1, 0])

    def test_all_with_only_some_of_its_hands_freed(self):
        self.told([("all", [1, 2]), None, ("any", [2])], [None, 0, None])
        self.told([None, ("all", [0, 2]), ("all", [1, 0])], [0, None, None])

    def test_rounds_of_hands_that_wait_for_each_other(self):
        for word in ("all", "any"):
            self.told([(word, [1]), (word, [0])], [None, None])
            self.told([(word, [1]), (word, [2]), (word, [0])], [None, None, None])
        self.told([("any", [1]), ("any", [0, 2]), None], [2, 1, 0])
        self.told([("all", [1]), ("all", [0, 2]), None], [None, None, 0])
        self.told([("any", [1]), ("all", [0, 2]), None], [None, None, 0])

    def test_a_round_with_one_way_out(self):
        waits = [("any", [1]), ("any", [2]), ("any", [3]), ("any", [0, 4]), None]
        self.told(waits, [4, 3, 2, 1, 0])

    def test_who_waits_behind_a_stuck_round(self):
        waits = [("all", [1]), ("all", [0]), ("all", [1, 3]), None, ("any", [2, 3])]
        self.told(waits, [None, None, None, 0, 1])

    def test_forty_hands_in_one_chain(self):
        for word in ("all", "any"):
            rising = [None] + [(word, [hand]) for hand in range(39)]
            self.told(rising, list(range(40)))
            falling = [(word, [hand + 1]) for hand in range(39)] + [None]
            self.told(falling, list(range(39, -1, -1)))

    def test_forty_hands_in_one_chain_that_nobody_frees(self):
        for word in ("all", "any"):
            self.told([(word, [(hand + 1) % 40]) for hand in range(40)], [None] * 40)
            self.told([(word, [0])] + [(word, [hand]) for hand in range(39)], [None] * 40)

    def test_a_chain_that_jumps(self):
        waits = [None] * 40
        for step in range(1, 40):
            waits[step * 7 % 40] = ("all", [(step - 1) * 7 % 40])
        rounds = freed(waits)
        self.assertEqual([rounds[step * 7 % 40] for step in range(40)], list(range(40)))

    def test_forty_hands_that_wait_for_all_below(self):
        waits = [None] + [("all", list(range(hand))) for hand in range(1, 40)]
        self.told(waits, list(range(40)))
        waits = [None] + [("any", list(range(hand))) for hand in range(1, 40)]
        self.told(waits, [0] + [1] * 39)

    def test_the_stuck_hands_rise(self):
        waits = [("all", [5]), None, ("any", [4]), ("any", [1]), ("any", [2]), ("all", [0])]
        self.assertEqual(stuck(waits), [0, 2, 4, 5])

    def test_the_order_of_the_hands_changes_nothing(self):
        self.told([("all", [2, 1]), None, ("any", [1, 0])], [2, 0, 1])
        self.told([("all", [1, 2]), None, ("any", [0, 1])], [2, 0, 1])


class TestAllRounds(unittest.TestCase):
    def fits(self, waits):
        # What [4] tells of each hand fits one list of rounds alone: rounds
        # that are numbers build on smaller ones, down to the hands that go on.
        rounds = freed(waits)
        told = [round_by_its_own(wait, rounds) for wait in waits]
        self.assertEqual(rounds, told, waits)
        lost = [hand for hand, turn in enumerate(rounds) if turn is None]
        self.assertEqual(stuck(waits), lost, waits)

    def test_all_waits_of_up_to_three_hands(self):
        for many in (1, 2, 3):
            for waits in all_waits(many):
                self.fits(waits)

    def test_mixed_waits_of_any_size(self):
        for many in range(1, 41):
            for seed in range(25):
                self.fits(mixed_waits(many, seed))


class TestNothingIsKept(unittest.TestCase):
    def test_a_change_of_what_was_handed_out(self):
        waits = [None, ("all", [0]), ("all", [2])]
        freed(waits).append("more")
        stuck(waits).clear()
        self.assertEqual(freed(waits), [0, 1, None])
        self.assertEqual(stuck(waits), [2])
        self.assertIsNot(freed(waits), freed(waits))
        self.assertIsNot(stuck(waits), stuck(waits))
        self.assertEqual(waits, [None, ("all", [0]), ("all", [2])])

    def test_a_change_of_what_was_handed_in(self):
        waits = [None, ("all", [0]), ("all", [2])]
        rounds, lost = freed(waits), stuck(waits)
        waits[2] = None
        waits[1][1][0] = 1
        self.assertEqual((rounds, lost), ([0, 1, None], [2]))
        self.assertEqual(freed(waits), [0, None, 0])
        self.assertEqual(stuck(waits), [1])


if __name__ == "__main__":
    unittest.main()

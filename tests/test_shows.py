"""Promises 3 and 4: which hands show that they are stuck, and what follows."""

import unittest

from stuckbell.errors import BadWaits, NoHand
from stuckbell.waits import freed, shows, stuck
from tests.kit import (
    NO_HANDS, NO_LISTS, ODD_THINGS, all_waits, mixed_waits, refusal,
    shown_by_the_words, snapshot, subsets,
)


class TestShows(unittest.TestCase):
    def told(self, waits, hands, answer):
        before = snapshot([waits, hands])[2]
        self.assertIs(shows(waits, hands), answer)
        self.assertEqual(snapshot([waits, hands])[2], before)

    def test_no_hands_at_all(self):
        self.told([None], [], True)
        self.told([("all", [0])], [], True)
        self.told([None] * 40, [], True)

    def test_a_hand_that_goes_on_shows_nothing(self):
        self.told([None], [0], False)
        self.told([None, ("all", [1])], [0, 1], False)
        self.told([None, ("all", [1])], [1, 0], False)
        self.told([None, ("all", [0])], [0, 1], False)

    def test_a_hand_that_waits_for_itself(self):
        self.told([("all", [0])], [0], True)
        self.told([("any", [0])], [0], True)
        self.told([("all", [1, 0]), None], [0], True)
        self.told([("any", [1, 0]), None], [0], False)

    def test_all_needs_one_among_them(self):
        waits = [("all", [1, 2, 3]), ("all", [0]), None, None]
        self.told(waits, [0, 1], True)
        self.told(waits, [0], False)
        self.told(waits, [1], False)
        self.told([("all", [3, 2, 1]), ("all", [0]), None, None], [0, 1], True)

    def test_any_needs_none_but_them(self):
        waits = [("any", [1, 2]), ("any", [0]), ("any", [0, 1]), None]
        self.told(waits, [0, 1, 2], True)
        self.told(waits, [0, 1], False)
        self.told(waits, [0, 2], False)
        self.told([("any", [1, 2]), ("any", [0]), None], [0, 1], False)
        self.told([("any", [2, 1]), ("any", [0]), None], [0, 1], False)

    def test_hands_that_are_stuck_but_do_not_show_it(self):
        waits = [("all", [1]), ("all", [0]), ("any", [0]), ("all", [0])]
        self.assertEqual(stuck(waits), [0, 1, 2, 3])
        for hands in ([0], [1], [2], [3], [2, 3], [0, 2]):
            self.told(waits, hands, False)
        for hands in ([0, 1], [0, 1, 2], [3, 1, 0], [0, 1, 2, 3]):
            self.told(waits, hands, True)

    def test_any_order(self):
        waits = [("any", [1]), ("any", [2]), ("all", [0, 3]), None]
        for hands in ([0, 1, 2], [2, 1, 0], [1, 2, 0], [2, 0, 1]):
            self.told(waits, hands, True)
        for hands in ([0, 1, 3], [3, 1, 2], [3, 2, 1, 0], [0, 1, 2, 3]):
            self.told(waits, hands, False)

    def test_a_hand_twice(self):
        waits = [("any", [1]), ("all", [0, 2]), None]
        self.told(waits, [0, 1, 0], True)
        self.told(waits, [1, 1, 0, 0], True)
        self.told(waits, [0, 0], False)
        self.told(waits, [2, 2], False)
        self.told([("all", [0])], [0] * 100, True)

    def test_a_long_list(self):
        waits = [("any", list(range(40)))] * 40
        self.told(waits, list(range(40)) * 2000, True)
        self.told(waits, list(range(39)) * 2000, False)

    def test_forty_hands(self):
        waits = [("any", [(hand + 1) % 40]) for hand in range(40)]
        self.told(waits, list(range(40)), True)
        self.told(waits, list(range(39, -1, -1)), True)
        for hand in range(40):
            self.told(waits, [other for other in range(40) if other != hand], False)

    def test_as_the_words_tell_it(self):
        for many in (1, 2, 3):
            for waits in all_waits(many):
                for hands in subsets(range(many)):
                    answer = shown_by_the_words(waits, hands)
                    self.assertIs(shows(waits, hands), answer, (waits, hands))
                    self.assertIs(shows(waits, hands[::-1]), answer, (waits, hands))


class TestRefusals(unittest.TestCase):
    def test_bad_waits_come_first(self):
        for hands in ([], [0], [0, "none"], [True], [40], None, "none"):
            for waits in NO_LISTS + ([], [None] * 41):
                self.assertIsNone(refusal(self, BadWaits, shows, waits, hands).at)
            bad = [None, ("all", []), "none"]
            self.assertEqual(refusal(self, BadWaits, shows, bad, hands).at, 1)

    def test_no_hand_at_each_place_of_the_list(self):
        waits = [("all", [1]), ("all", [0])]
        for thing in NO_HANDS:
            with self.subTest(thing=thing):
                for hands in ([thing], [thing, 0], [0, thing], [1, thing, 0], [0, 1, 0, thing]):
                    before = snapshot([waits, hands])[2]
                    refusal(self, NoHand, shows, waits, hands)
                    self.assertEqual(snapshot([waits, hands])[2], before)

    def test_no_hand_behind_one_that_shows_nothing(self):
        for thing in NO_HANDS:
            refusal(self, NoHand, shows, [None, ("all", [0])], [0, 1, thing])

    def test_the_hands_are_those_of_the_waits(self):
        for many in (1, 2, 7, 39, 40):
            waits = [("all", [0])] * many
            self.assertIs(shows(waits, [many - 1, 0]), True)
            refusal(self, NoHand, shows, waits, [many])
            refusal(self, NoHand, shows, waits, [0, many])
            refusal(self, NoHand, shows, waits, [-1])
            refusal(self, NoHand, shows, waits, [-many])

    def test_truths_are_no_hands(self):
        waits = [("all", [0]), ("all", [1])]
        refusal(self, NoHand, shows, waits, [True])
        refusal(self, NoHand, shows, waits, [False])
        refusal(self, NoHand, shows, waits, [1, True])
        refusal(self, NoHand, shows, waits, [0, 1, False])

    def test_odd_objects(self):
        for odd in ODD_THINGS:
            refusal(self, NoHand, shows, [None], [odd])
            refusal(self, NoHand, shows, [("all", [0])], [0, odd])

    def test_no_list_of_hands(self):
        for hands in NO_LISTS:
            with self.subTest(hands=hands):
                refusal(self, NoHand, shows, [("all", [0])], hands)
        for odd in ODD_THINGS:
            refusal(self, NoHand, shows, [None], odd)


class TestTogether(unittest.TestCase):
    def both(self, waits, hands):
        if shows(waits, hands):
            lost = stuck(waits)
            self.assertEqual([hand for hand in hands if hand not in lost], [], waits)

    def test_all_stuck_hands_together_show_it(self):
        for many in (1, 2, 3):
            for waits in all_waits(many):
                self.assertIs(shows(waits, stuck(waits)), True, waits)
        for many in range(1, 41):
            for seed in range(25):
                waits = mixed_waits(many, seed)
                self.assertIs(shows(waits, stuck(waits)), True, waits)

    def test_whoever_is_among_hands_that_show_it_is_stuck(self):
        for many in (1, 2, 3):
            for waits in all_waits(many):
                for hands in subsets(range(many)):
                    self.both(waits, hands)

    def test_every_stuck_hand_is_among_hands_that_show_it(self):
        for waits in all_waits(3):
            found = [hands for hands in subsets(range(3)) if shows(waits, hands)]
            among = sorted({hand for hands in found for hand in hands})
            self.assertEqual(among, stuck(waits), waits)

    def test_no_freed_hand_shows_it_with_the_stuck_ones(self):
        for many in range(1, 41):
            for seed in range(10):
                waits = mixed_waits(many, seed)
                lost = stuck(waits)
                for hand, turn in enumerate(freed(waits)):
                    if turn is not None:
                        self.assertIs(shows(waits, lost + [hand]), False, waits)


if __name__ == "__main__":
    unittest.main()

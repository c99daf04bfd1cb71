"""Promise 1: what waits are, and the place of what is none."""

import unittest

from stuckbell import waits as waits_file
from stuckbell.errors import BadWaits
from stuckbell.waits import MOST_HANDS, freed, need, shows, stuck
from tests.kit import (
    NO_LISTS, NO_WAITS, ODD_THINGS, all_waits, mixed_waits, refusal, snapshot,
)


def shows_none(waits):
    return shows(waits, [])


CALLS = (need, freed, stuck, shows_none)


class TestGoodWaits(unittest.TestCase):
    def good(self, waits):
        before = snapshot(waits)
        self.assertIs(need(waits), True)
        for call in CALLS:
            call(waits)
        self.assertEqual(snapshot(waits), before)

    def test_one_hand(self):
        self.good([None])
        self.good([("all", [0])])
        self.good([("any", [0])])

    def test_some_hands(self):
        self.good([None, ("all", [0]), ("any", [1, 0]), ("all", [3, 0, 2, 1])])
        self.good([("any", [1]), ("any", [0])])
        self.good([None, None, None])

    def test_any_order_of_the_hands(self):
        self.good([("all", [2, 0, 1]), ("any", [1, 2, 0]), ("all", [0, 2])])

    def test_all_waits_of_two_hands(self):
        for waits in all_waits(2):
            self.good(waits)

    def test_thirty_nine_and_forty_hands(self):
        self.assertEqual(MOST_HANDS, 40)
        for many in (39, 40):
            every = list(range(many))
            self.good([None] * many)
            self.good([("all", every)] * many)
            self.good([("any", every[::-1])] * many)
            self.good([None] * (many - 1) + [("all", [many - 1])])
            self.good(mixed_waits(many, 5))

    def test_one_list_of_hands_in_two_waits(self):
        hands = [0, 1]
        self.good([("all", hands), ("any", hands)])


class TestNoList(unittest.TestCase):
    def none_at_all(self, waits):
        for call in CALLS:
            self.assertIsNone(refusal(self, BadWaits, call, waits).at)

    def test_no_list(self):
        for waits in NO_LISTS:
            with self.subTest(waits=waits):
                before = snapshot(waits)
                self.none_at_all(waits)
                self.assertEqual(snapshot(waits), before)

    def test_odd_objects(self):
        for odd in ODD_THINGS:
            self.none_at_all(odd)

    def test_an_empty_list(self):
        self.none_at_all([])

    def test_more_than_forty_things(self):
        for many in (41, 42, 80, 1000):
            self.none_at_all([None] * many)
            self.none_at_all([("all", [0])] * many)

    def test_more_than_forty_things_that_are_bad_too(self):
        self.none_at_all(["none"] * 41)
        self.none_at_all([None, "none"] + [None] * 39)
        self.none_at_all([None] * 40 + [True])


class TestBadThings(unittest.TestCase):
    def bad_at(self, waits, at):
        before = snapshot(waits)
        for call in CALLS:
            place = refusal(self, BadWaits, call, waits).at
            self.assertIs(type(place), int)
            self.assertEqual(place, at)
        self.assertEqual(snapshot(waits), before)

    def test_each_bad_thing_at_each_place_of_two(self):
        for thing in NO_WAITS:
            with self.subTest(thing=thing):
                self.bad_at([thing, None], 0)
                self.bad_at([thing, ("all", [1, 0])], 0)
                self.bad_at([None, thing], 1)
                self.bad_at([("any", [1]), thing], 1)

    def test_the_first_of_two_bad_things(self):
        for thing in NO_WAITS:
            with self.subTest(thing=thing):
                self.bad_at([thing, "none"], 0)
                self.bad_at(["none", thing], 0)
                self.bad_at([thing, thing], 0)

    def test_each_place_of_few_and_of_forty(self):
        for many in (1, 2, 3, 7, 40):
            for at in range(many):
                waits = [None, ("all", [0]), ("any", [many - 1])] * 14
                waits = waits[:many]
                waits[at] = ("all", [many])
                self.bad_at(waits, at)
                for behind in range(at + 1, many):
                    self.bad_at(waits[:behind] + [True] + waits[behind + 1:], at)

    def test_the_hands_are_those_of_this_list(self):
        self.bad_at([("all", [1])], 0)
        self.bad_at([("all", [0]), ("any", [1, 2])], 1)
        self.bad_at([None] * 39 + [("all", [40])], 39)
        self.bad_at([None] * 38 + [("any", [39])], 38)

    def test_truths_are_no_hands(self):
        self.bad_at([None, ("all", [True])], 1)
        self.bad_at([None, ("any", [False])], 1)
        self.bad_at([None, None, ("any", [1, True])], 2)
        self.bad_at([("all", [True]), None], 0)

    def test_waits_for_every_hand_and_one_of_them_again(self):
        every = list(range(40))
        waits = [("all", every)] * 39 + [("any", every + [39])]
        self.bad_at(waits, 39)

    def test_odd_objects(self):
        for odd in ODD_THINGS:
            for thing in (odd, (odd, [0]), ("all", odd), ("any", [odd]), ("all", [0, odd])):
                for call in CALLS:
                    self.assertEqual(refusal(self, BadWaits, call, [None, thing]).at, 1)

    def test_a_number_that_is_too_long_to_write_out(self):
        for thing in (10 ** 5000, ("all", [10 ** 5000]), ("any", [-10 ** 5000])):
            for call in CALLS:
                self.assertEqual(refusal(self, BadWaits, call, [None, thing]).at, 1)

    def test_a_list_that_holds_itself(self):
        waits = [None]
        waits.append(waits)
        for call in CALLS:
            self.assertEqual(refusal(self, BadWaits, call, waits).at, 1)
        hands = [0]
        hands.append(hands)
        for call in CALLS:
            self.assertEqual(refusal(self, BadWaits, call, [("all", hands), None]).at, 0)

    def test_a_list_that_is_nested_deep(self):
        deep = []
        for _ in range(100000):
            deep = [deep]
        for call in CALLS:
            self.assertEqual(refusal(self, BadWaits, call, [None, deep]).at, 1)
            self.assertEqual(refusal(self, BadWaits, call, [("all", deep)]).at, 0)


class TestInterface(unittest.TestCase):
    def test_all_are_defined_where_the_interface_lists_them(self):
        for name in ("need", "freed", "stuck", "shows"):
            self.assertEqual(getattr(waits_file, name).__module__, "stuckbell.waits")
            self.assertEqual(getattr(waits_file, name).__name__, name)

    def test_the_names_of_the_arguments(self):
        self.assertIs(need(waits=[None]), True)
        self.assertEqual(freed(waits=[None]), [0])
        self.assertEqual(stuck(waits=[None]), [])
        self.assertIs(shows(waits=[None], hands=[0]), False)


if __name__ == "__main__":
    unittest.main()

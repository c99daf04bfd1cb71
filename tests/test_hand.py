"""Promises 5 and 7: what one hand keeps, and what it sends when a letter comes."""

import unittest

from stuckbell import hand as hand_file
from stuckbell.hand import Hand
from tests.kit import mixed_waits, snapshot
from tests.model import ORDERS, Model, cycles

FIELDS = ("is_freed", "has_asked", "askers", "owed", "waker")


def kept(hand):
    """The fields of a hand, in the order of the interface."""
    return [hand.is_freed, hand.has_asked, list(hand.askers), hand.owed, hand.waker]


class HandCase(unittest.TestCase):
    def comes(self, hand, letter, sent, fields):
        told = hand.come(letter)
        self.assertIs(type(told), list)
        self.assertEqual(told, sent)
        self.assertEqual({type(item) for item in told} - {tuple}, set())
        self.keeps(hand, fields)

    def keeps(self, hand, fields):
        self.assertEqual(kept(hand), fields)
        self.assertIs(type(hand.is_freed), bool)
        self.assertIs(type(hand.has_asked), bool)
        self.assertIs(type(hand.askers), list)
        self.assertIs(type(hand.owed), int)


class TestTheMaking(HandCase):
    def test_what_a_hand_keeps_at_first(self):
        for is_asker in (True, False):
            self.keeps(Hand(0, None, is_asker), [True, False, [], 0, None])
            self.keeps(Hand(3, ("all", [1, 2]), is_asker), [False, False, [], 0, None])
            self.keeps(Hand(39, ("any", [39]), is_asker), [False, False, [], 0, None])

    def test_the_fields_are_its_own(self):
        hand = Hand(0, ("all", [1]), False)
        for name in FIELDS:
            self.assertIn(name, vars(hand))
        self.assertIsNot(hand.askers, Hand(0, ("all", [1]), False).askers)

    def test_the_interface(self):
        self.assertEqual(Hand.__module__, "stuckbell.hand")
        self.assertIs(hand_file.Hand, Hand)
        for name in ("begin", "come"):
            self.assertIn(name, vars(Hand))
        hand = Hand(number=1, wait=("any", [0]), is_asker=False)
        self.assertEqual(hand.come(letter=("ask", 2, 1)), [("ask", 1, 0)])


class TestBegin(HandCase):
    def begins(self, hand, sent, fields):
        told = hand.begin()
        self.assertIs(type(told), list)
        self.assertEqual(told, sent)
        self.keeps(hand, fields)

    def test_an_asker_that_goes_on(self):
        self.begins(Hand(4, None, True), [], [True, False, [], 0, None])

    def test_an_asker_that_waits_for_one(self):
        for word in ("all", "any"):
            hand = Hand(1, (word, [0]), True)
            self.begins(hand, [("ask", 1, 0)], [False, True, [], 1, None])

    def test_an_asker_that_waits_for_itself(self):
        hand = Hand(2, ("any", [2]), True)
        self.begins(hand, [("ask", 2, 2)], [False, True, [], 1, None])

    def test_the_told_order(self):
        for word in ("all", "any"):
            hand = Hand(1, (word, [3, 0, 2, 1]), True)
            sent = [("ask", 1, 3), ("ask", 1, 0), ("ask", 1, 2), ("ask", 1, 1)]
            self.begins(hand, sent, [False, True, [], 4, None])

    def test_an_asker_that_waits_for_forty(self):
        hands = list(range(39, -1, -1))
        hand = Hand(39, ("all", hands), True)
        sent = [("ask", 39, other) for other in hands]
        self.begins(hand, sent, [False, True, [], 40, None])


class TestAHandThatGoesOn(HandCase):
    def test_it_is_asked_and_its_letter_comes_back(self):
        hand = Hand(1, None, False)
        self.comes(hand, ("ask", 0, 1), [("freed", 1, 0)], [True, False, [], 1, 0])
        self.comes(hand, ("back", 0, 1), [("back", 1, 0)], [True, False, [], 0, None])

    def test_it_is_asked_by_several(self):
        hand = Hand(1, None, False)
        self.comes(hand, ("ask", 4, 1), [("freed", 1, 4)], [True, False, [], 1, 4])
        sent = [("back", 1, 2), ("freed", 1, 2)]
        self.comes(hand, ("ask", 2, 1), sent, [True, False, [], 2, 4])
        self.comes(hand, ("back", 4, 1), [], [True, False, [], 1, 4])
        sent = [("back", 1, 0), ("freed", 1, 0)]
        self.comes(hand, ("ask", 0, 1), sent, [True, False, [], 2, 4])
        self.comes(hand, ("back", 0, 1), [], [True, False, [], 1, 4])
        self.comes(hand, ("back", 2, 1), [("back", 1, 4)], [True, False, [], 0, None])

    def test_it_sleeps_and_is_asked_again(self):
        hand = Hand(1, None, False)
        for sender in (0, 3, 2):
            sent = [("freed", 1, sender)]
            self.comes(hand, ("ask", sender, 1), sent, [True, False, [], 1, sender])
            sent = [("back", 1, sender)]
            self.comes(hand, ("back", sender, 1), sent, [True, False, [], 0, None])

    def test_an_asker_that_goes_on_and_is_asked(self):
        hand = Hand(1, None, True)
        sent = [("back", 1, 0), ("freed", 1, 0)]
        self.comes(hand, ("ask", 0, 1), sent, [True, False, [], 1, None])
        self.comes(hand, ("back", 0, 1), [], [True, False, [], 0, None])


class TestAHandThatWaits(HandCase):
    def test_it_asks_once(self):
        hand = Hand(1, ("all", [2, 3]), False)
        asks = [("ask", 1, 2), ("ask", 1, 3)]
        self.comes(hand, ("ask", 4, 1), asks, [False, True, [4], 2, 4])
        self.comes(hand, ("ask", 0, 1), [("back", 1, 0)], [False, True, [4, 0], 2, 4])
        self.comes(hand, ("ask", 3, 1), [("back", 1, 3)], [False, True, [4, 0, 3], 2, 4])

    def test_a_waker_that_is_hand_nought_keeps_it_awake(self):
        hand = Hand(1, ("all", [2]), False)
        self.comes(hand, ("ask", 0, 1), [("ask", 1, 2)], [False, True, [0], 1, 0])
        self.comes(hand, ("ask", 3, 1), [("back", 1, 3)], [False, True, [0, 3], 1, 0])
        self.comes(hand, ("back", 2, 1), [("back", 1, 0)], [False, True, [0, 3], 0, None])

    def test_it_sleeps_when_nothing_is_owed(self):
        hand = Hand(1, ("all", [2, 3]), False)
        hand.come(("ask", 0, 1))
        self.comes(hand, ("back", 3, 1), [], [False, True, [0], 1, 0])
        self.comes(hand, ("back", 2, 1), [("back", 1, 0)], [False, True, [0], 0, None])
        # Asked again it wakes, and sleeps at once: it has asked already.
        self.comes(hand, ("ask", 4, 1), [("back", 1, 4)], [False, True, [0, 4], 0, None])

    def test_all_are_needed(self):
        hand = Hand(1, ("all", [2, 3]), False)
        hand.come(("ask", 0, 1))
        self.comes(hand, ("freed", 3, 1), [("back", 1, 3)], [False, True, [0], 2, 0])
        sent = [("back", 1, 2), ("freed", 1, 0)]
        self.comes(hand, ("freed", 2, 1), sent, [True, True, [0], 3, 0])

    def test_any_one_is_enough_and_tells_once(self):
        hand = Hand(1, ("any", [2, 3]), False)
        hand.come(("ask", 0, 1))
        sent = [("back", 1, 3), ("freed", 1, 0)]
        self.comes(hand, ("freed", 3, 1), sent, [True, True, [0], 3, 0])
        self.comes(hand, ("freed", 2, 1), [("back", 1, 2)], [True, True, [0], 3, 0])

    def test_it_tells_its_askers_in_their_order(self):
        for word in ("all", "any"):
            hand = Hand(1, (word, [5]), False)
            for sender in (4, 0, 3, 2):
                hand.come(("ask", sender, 1))
            sent = [("back", 1, 5)] + [("freed", 1, other) for other in (4, 0, 3, 2)]
            self.comes(hand, ("freed", 5, 1), sent, [True, True, [4, 0, 3, 2], 5, 4])

    def test_it_is_woken_by_the_one_that_frees_it(self):
        for word in ("all", "any"):
            hand = Hand(1, (word, [2]), False)
            hand.come(("ask", 0, 1))
            hand.come(("back", 2, 1))
            sent = [("freed", 1, 0)]
            self.comes(hand, ("freed", 2, 1), sent, [True, True, [0], 1, 2])
            self.comes(hand, ("back", 0, 1), [("back", 1, 2)], [True, True, [0], 0, None])

    def test_one_that_does_not_free_it_wakes_it_for_a_moment(self):
        hand = Hand(1, ("all", [2, 3]), False)
        hand.come(("ask", 0, 1))
        hand.come(("back", 2, 1))
        hand.come(("back", 3, 1))
        self.comes(hand, ("freed", 2, 1), [("back", 1, 2)], [False, True, [0], 0, None])
        self.comes(hand, ("freed", 3, 1), [("freed", 1, 0)], [True, True, [0], 1, 3])

    def test_one_that_is_freed_answers_at_once(self):
        hand = Hand(1, ("any", [2, 3]), False)
        hand.come(("ask", 0, 1))
        hand.come(("freed", 2, 1))
        sent = [("back", 1, 4), ("freed", 1, 4)]
        self.comes(hand, ("ask", 4, 1), sent, [True, True, [0], 4, 0])

    def test_one_that_is_freed_and_sleeps_answers_too(self):
        hand = Hand(1, ("any", [2]), False)
        hand.come(("ask", 0, 1))
        hand.come(("freed", 2, 1))
        hand.come(("back", 2, 1))
        self.comes(hand, ("back", 0, 1), [("back", 1, 0)], [True, True, [0], 0, None])
        self.comes(hand, ("ask", 4, 1), [("freed", 1, 4)], [True, True, [0], 1, 4])

    def test_a_hand_that_waits_for_itself(self):
        for word in ("all", "any"):
            hand = Hand(1, (word, [1]), False)
            self.comes(hand, ("ask", 0, 1), [("ask", 1, 1)], [False, True, [0], 1, 0])
            sent = [("back", 1, 1)]
            self.comes(hand, ("ask", 1, 1), sent, [False, True, [0, 1], 1, 0])
            sent = [("back", 1, 0)]
            self.comes(hand, ("back", 1, 1), sent, [False, True, [0, 1], 0, None])

    def test_a_hand_that_waits_for_itself_and_is_freed(self):
        hand = Hand(1, ("any", [1, 2]), False)
        hand.come(("ask", 0, 1))
        hand.come(("ask", 1, 1))
        sent = [("back", 1, 2), ("freed", 1, 0), ("freed", 1, 1)]
        self.comes(hand, ("freed", 2, 1), sent, [True, True, [0, 1], 4, 0])
        self.comes(hand, ("freed", 1, 1), [("back", 1, 1)], [True, True, [0, 1], 4, 0])


class TestTheAsker(HandCase):
    def begun(self, wait):
        hand = Hand(0, wait, True)
        hand.begin()
        return hand

    def test_it_is_always_awake_and_has_no_waker(self):
        hand = self.begun(("all", [1, 2]))
        self.comes(hand, ("ask", 1, 0), [("back", 0, 1)], [False, True, [1], 2, None])
        self.comes(hand, ("freed", 2, 0), [("back", 0, 2)], [False, True, [1], 2, None])
        self.comes(hand, ("back", 1, 0), [], [False, True, [1], 1, None])
        self.comes(hand, ("back", 2, 0), [], [False, True, [1], 0, None])

    def test_it_is_freed_and_tells_its_askers(self):
        hand = self.begun(("any", [1]))
        hand.come(("ask", 3, 0))
        hand.come(("ask", 1, 0))
        sent = [("back", 0, 1), ("freed", 0, 3), ("freed", 0, 1)]
        self.comes(hand, ("freed", 1, 0), sent, [True, True, [3, 1], 3, None])

    def test_it_waits_for_itself(self):
        for word in ("all", "any"):
            hand = self.begun((word, [0]))
            self.comes(hand, ("ask", 0, 0), [("back", 0, 0)], [False, True, [0], 1, None])
            self.comes(hand, ("back", 0, 0), [], [False, True, [0], 0, None])

    def test_it_is_owed_nothing_and_is_asked(self):
        hand = self.begun(("all", [1]))
        hand.come(("back", 1, 0))
        self.comes(hand, ("ask", 4, 0), [("back", 0, 4)], [False, True, [4], 0, None])
        self.comes(hand, ("ask", 3, 0), [("back", 0, 3)], [False, True, [4, 3], 0, None])
        sent = [("back", 0, 1), ("freed", 0, 4), ("freed", 0, 3)]
        self.comes(hand, ("freed", 1, 0), sent, [True, True, [4, 3], 2, None])
        sent = [("back", 0, 2), ("freed", 0, 2)]
        self.comes(hand, ("ask", 2, 0), sent, [True, True, [4, 3], 3, None])

    def test_it_is_owed_nothing_and_some_are_freed(self):
        hand = self.begun(("all", [1, 2]))
        hand.come(("back", 1, 0))
        hand.come(("back", 2, 0))
        self.comes(hand, ("freed", 2, 0), [("back", 0, 2)], [False, True, [], 0, None])
        self.comes(hand, ("freed", 1, 0), [("back", 0, 1)], [True, True, [], 0, None])
        hand = self.begun(("any", [1, 2]))
        hand.come(("back", 1, 0))
        hand.come(("back", 2, 0))
        self.comes(hand, ("freed", 2, 0), [("back", 0, 2)], [True, True, [], 0, None])
        self.comes(hand, ("freed", 1, 0), [("back", 0, 1)], [True, True, [], 0, None])


class TestNothingIsKept(HandCase):
    def test_a_change_of_the_wait(self):
        for word in ("all", "any"):
            hands = [2, 3]
            hand = Hand(1, (word, hands), False)
            hands.append(4)
            hands[0] = 0
            sent = [("ask", 1, 2), ("ask", 1, 3)]
            self.comes(hand, ("ask", 0, 1), sent, [False, True, [0], 2, 0])

    def test_a_change_of_the_wait_behind_the_asking(self):
        hands = [2, 3]
        hand = Hand(1, ("all", hands), True)
        hand.begin()
        hands.clear()
        self.comes(hand, ("freed", 2, 1), [("back", 1, 2)], [False, True, [], 2, None])
        hands.append(5)
        self.comes(hand, ("freed", 3, 1), [("back", 1, 3)], [True, True, [], 2, None])

    def test_the_wait_stays(self):
        wait = ("all", [2, 1, 3])
        before = snapshot(wait)
        hand = Hand(1, wait, False)
        for letter in (("ask", 0, 1), ("ask", 1, 1), ("freed", 2, 1), ("back", 1, 1)):
            hand.come(letter)
        self.assertEqual(snapshot(wait), before)

    def test_a_change_of_the_letters_that_were_told(self):
        hand = Hand(0, ("all", [1, 2]), True)
        hand.begin().clear()
        self.keeps(hand, [False, True, [], 2, None])
        hand.come(("ask", 1, 0)).append(("ask", 0, 3))
        self.keeps(hand, [False, True, [1], 2, None])
        hand.come(("freed", 1, 0)).clear()
        sent = [("back", 0, 2), ("freed", 0, 1)]
        self.comes(hand, ("freed", 2, 0), sent, [True, True, [1], 3, None])

    def test_a_change_of_the_askers_that_were_told(self):
        hand = Hand(1, ("any", [2]), False)
        hand.come(("ask", 0, 1))
        told = hand.askers
        hand.come(("ask", 3, 1))
        self.assertEqual(told, [0])
        hand.askers.append(9)
        sent = [("back", 1, 2), ("freed", 1, 0), ("freed", 1, 3)]
        self.assertEqual(hand.come(("freed", 2, 1)), sent)

    def test_two_hands_of_the_same_wait(self):
        wait = ("any", [2])
        one, other = Hand(1, wait, False), Hand(1, wait, False)
        one.come(("ask", 0, 1))
        one.come(("freed", 2, 1))
        self.keeps(other, [False, False, [], 0, None])
        self.comes(other, ("ask", 3, 1), [("ask", 1, 2)], [False, True, [3], 1, 3])


class TestAllTogether(HandCase):
    def follow(self, waits, asker, order):
        model = Model(waits, asker)
        hands = [Hand(at, wait, at == asker) for at, wait in enumerate(waits)]
        self.assertEqual(hands[asker].begin(), model.row)
        step = 0
        while model.row:
            place = order(model.row, step)
            letter = model.row[place]
            self.assertEqual(hands[letter[2]].come(letter), model.bring(place))
            step += 1
            for at, hand in enumerate(hands):
                self.keeps(hand, [
                    model.freed[at], model.asked[at], model.askers[at],
                    model.owed[at], model.waker[at],
                ])

    def test_hands_do_what_the_points_tell(self):
        for order in ORDERS:
            for many in (1, 2, 5):
                for waits in cycles(many):
                    self.follow(waits, 0, order)
            for many in (4, 8, 13):
                self.follow(mixed_waits(many, many), many - 2, order)


if __name__ == "__main__":
    unittest.main()

"""Promises 8 and 9: when the bell rings, what it tells then, and who is shown."""

import copy
import unittest

from stuckbell.net import Net
from stuckbell.waits import freed, need, shows, stuck
from tests.kit import all_waits, mixed_waits, snapshot
from tests.model import (
    ORDERS, cycles, early, first, last, many_nets, mixed, most_letters, told_by, turns,
)


class BellCase(unittest.TestCase):
    def begun(self, waits, asker):
        """A net, how the waits free their hands, and the letters it began with."""
        net = Net(waits, asker)
        self.while_letters_wait(net, waits, freed(waits))
        return net, freed(waits), net.letters()

    def while_letters_wait(self, net, waits, rounds):
        """What holds behind each letter, also while others still wait."""
        rung = net.rung()
        self.assertLessEqual(net.sent(), most_letters(waits), waits)
        if net.letters():
            self.assertIsNone(rung, waits)
        else:
            self.assertIn(rung, (True, False), waits)
        for hand, turn in enumerate(rounds):
            if turn is None:
                self.assertIs(net.freed_yet(hand), False, waits)
            if turn == 0:
                self.assertIs(net.freed_yet(hand), True, waits)
        asked = net.shown()
        self.assertEqual(asked, sorted(asked))
        self.assertEqual([hand for hand in asked if net.freed_yet(hand)], [], waits)

    def when_none_waits(self, net, waits, asker, ever):
        """What holds when all letters, told from the first one on, have come."""
        rounds = freed(waits)
        self.assertEqual(net.letters(), [])
        self.assertIs(net.rung(), asker in stuck(waits), waits)
        self.assertIs(net.freed_yet(asker), rounds[asker] is not None, waits)
        outward = [letter for letter in ever if letter[0] in ("ask", "freed")]
        self.assertEqual(net.sent(), 2 * len(outward), waits)
        self.assertEqual(net.sent(), len(ever), waits)
        shown = net.shown()
        self.assertIs(shows(waits, shown), True, (waits, shown))
        asked = {asker} | {hand for word, _, hand in ever if word == "ask"}
        for hand in range(len(waits)):
            self.assertEqual((net.owed_by(hand), net.waker_of(hand)), (0, None), waits)
            if hand in shown:
                self.assertIn(hand, stuck(waits))
                self.assertIn(hand, asked)
            elif hand in asked:
                self.assertIs(net.freed_yet(hand), True, waits)
                self.assertIsNotNone(rounds[hand], waits)
            else:
                self.assertIs(net.freed_yet(hand), waits[hand] is None, waits)

    def run_down(self, waits, asker, order):
        net, rounds, ever = self.begun(waits, asker)
        many_came = 0
        for step in turns(net, waits):
            ever += net.bring(order(net.letters(), step))
            self.while_letters_wait(net, waits, rounds)
            many_came += 1
        self.assertEqual(many_came, len(ever))
        self.when_none_waits(net, waits, asker, ever)
        return net


class TestTheBell(BellCase):
    def test_it_rings_at_once_if_the_asker_goes_on(self):
        for waits, asker in (
            ([None], 0), ([None, None], 1), ([("all", [1]), None], 1),
            ([("any", [hand]) for hand in range(39)] + [None], 39),
        ):
            net = Net(waits, asker)
            self.assertIs(net.rung(), False)
            self.assertEqual((net.letters(), net.sent(), net.shown()), ([], 0, []))
            self.when_none_waits(net, waits, asker, [])

    def test_it_rings_with_the_last_letter_alone(self):
        waits = [("all", [1, 2]), None, None]
        net = Net(waits, 0)
        rung = []
        for _ in turns(net, waits):
            rung.append(net.rung())
            net.bring(0)
        rung.append(net.rung())
        self.assertEqual(rung, [None] * 8 + [False])

    def test_the_asker_may_be_freed_long_before(self):
        waits = [("any", [1, 2]), None, ("all", [3]), ("all", [2])]
        net = Net(waits, 0)
        net.bring(0)
        net.bring(1)
        self.assertIs(net.freed_yet(0), True)
        self.assertIsNone(net.rung())
        for _ in turns(net, waits):
            self.assertIsNone(net.rung())
            net.bring(0)
        self.assertIs(net.rung(), False)
        self.assertEqual(net.shown(), [2, 3])

    def test_a_stuck_asker(self):
        for word in ("all", "any"):
            for many in (1, 2, 3, 40):
                waits = [(word, [(hand + 1) % many]) for hand in range(many)]
                for order in ORDERS:
                    net = self.run_down(waits, many - 1, order)
                    self.assertIs(net.rung(), True)
                    self.assertEqual(net.shown(), list(range(many)))

    def test_a_freed_asker(self):
        for word in ("all", "any"):
            for many in (2, 3, 40):
                waits = [(word, [hand + 1]) for hand in range(many - 1)] + [None]
                for order in ORDERS:
                    net = self.run_down(waits, 0, order)
                    self.assertIs(net.rung(), False)
                    self.assertEqual(net.shown(), [])

    def test_who_was_not_asked_is_not_shown(self):
        waits = [None, ("all", [2]), ("all", [1]), ("any", [0]), ("any", [4])]
        for order in ORDERS:
            net = self.run_down(waits, 1, order)
            self.assertEqual(net.shown(), [1, 2])
            # Nobody asked it, so nobody told it: it is not freed here, though
            # the waits free it.
            self.assertIs(net.freed_yet(3), False)

    def test_the_shown_hands_rise(self):
        waits = [("all", [3]), ("any", [4]), ("all", [4]), ("any", [2]), ("any", [0, 1, 4])]
        net = Net(waits, 3)
        told = [net.shown()]
        for step in turns(net, waits):
            net.bring(early("ask", "freed", "back")(net.letters(), step))
            if net.shown() != told[-1]:
                told.append(net.shown())
        self.assertEqual(told, [[3], [2, 3], [2, 3, 4], [0, 2, 3, 4], [0, 1, 2, 3, 4]])

    def test_a_hand_that_is_freed_is_shown_no_more(self):
        waits = [("all", [1]), ("any", [2]), None]
        net = Net(waits, 0)
        told = [net.shown()]
        for _ in turns(net, waits):
            net.bring(0)
            if net.shown() != told[-1]:
                told.append(net.shown())
        self.assertEqual(told, [[0], [0, 1], [0], []])


class TestManyWaitsAndOrders(BellCase):
    def test_many_waits_each_in_one_order(self):
        for turn, (waits, asker) in enumerate(many_nets()):
            self.run_down(waits, asker, ORDERS[turn % len(ORDERS)])

    def test_all_waits_of_three_hands(self):
        for turn, waits in enumerate(all_waits(3)):
            for asker in range(3):
                if waits[asker] is not None:
                    self.run_down(waits, asker, ORDERS[(turn + asker) % len(ORDERS)])

    def test_some_waits_in_all_orders(self):
        for order in ORDERS:
            for many in (2, 3, 6, 11):
                for waits in cycles(many):
                    self.run_down(waits, 0, order)
                    self.run_down(waits, many - 1, order)
            for many in (4, 8, 12):
                for seed in range(4):
                    for asker in range(0, many, 3):
                        self.run_down(mixed_waits(many, seed), asker, order)

    def test_one_net_in_many_orders(self):
        waits = [("all", [1, 2]), ("any", [3, 0]), ("all", [1, 4]), ("all", [4, 1]), None]
        for seed in range(200):
            self.run_down(waits, 0, mixed(seed))

    def test_forty_hands(self):
        every = list(range(40))
        for order in (first, last, mixed(4), early("ask", "freed", "back")):
            self.run_down([("all", every)] * 40, 3, order)
            self.run_down([("any", every)] * 39 + [None], 3, order)
            for seed in range(10):
                self.run_down(mixed_waits(40, seed), seed, order)


class TestEveryOrder(BellCase):
    def every_order(self, waits, asker):
        net, rounds, ever = self.begun(waits, asker)
        found = [(net, ever)]
        seen = set()
        while found:
            net, ever = found.pop()
            if not net.letters():
                self.when_none_waits(net, waits, asker, ever)
            for place in range(len(net.letters())):
                then = copy.deepcopy(net)
                sent = ever + then.bring(place)
                self.while_letters_wait(then, waits, rounds)
                # What was sent and what still waits tell which letters have
                # come, and so also who told whom that it is freed.
                key = repr((sent, sorted(then.letters()), told_by(then, len(waits))[2:]))
                if key not in seen:
                    seen.add(key)
                    found.append((then, sent))
        return len(seen)

    def test_all_waits_of_one_hand(self):
        for waits in all_waits(1):
            self.every_order(waits, 0)

    def test_all_waits_of_two_hands(self):
        for waits in all_waits(2):
            for asker in (0, 1):
                self.every_order(waits, asker)

    def test_some_waits_of_three_hands(self):
        for waits in (
            [("all", [1]), ("any", [0, 2]), None],
            [("any", [1]), ("all", [2]), ("all", [1])],
            [("all", [1, 2]), ("any", [2]), None],
            [("any", [1, 2]), None, ("all", [2])],
            [("all", [1]), ("any", [2]), ("all", [0])],
        ):
            self.assertGreater(self.every_order(waits, 0), 5)


class TestNothingIsShared(BellCase):
    WAITS = [("all", [1, 2]), ("any", [0, 3]), ("all", [3]), None, ("any", [4, 1])]

    def test_the_waits_stay(self):
        for order in ORDERS:
            for asker in range(5):
                waits = copy.deepcopy(self.WAITS)
                before = snapshot(waits)
                self.run_down(waits, asker, order)
                self.assertEqual(snapshot(waits), before)

    def test_two_nets_of_the_same_waits(self):
        for order in ORDERS:
            one, other = Net(self.WAITS, 0), Net(self.WAITS, 0)
            third = Net(self.WAITS, 4)
            before = told_by(other, 5), told_by(third, 5)
            steps = []
            for step in turns(one, self.WAITS):
                place = order(one.letters(), step)
                steps.append((place, one.bring(place), told_by(one, 5)))
                self.assertEqual((told_by(other, 5), told_by(third, 5)), before)
            for place, sent, told in steps:
                self.assertEqual(other.bring(place), sent)
                self.assertEqual(told_by(other, 5), told)

    def test_a_change_of_the_waits_behind_the_making(self):
        for order in ORDERS:
            waits = copy.deepcopy(self.WAITS)
            one, other = Net(waits, 0), Net(self.WAITS, 0)
            ever = one.letters()
            self.spoil(waits)
            for step in turns(other, self.WAITS):
                place = order(other.letters(), step)
                sent = one.bring(place)
                ever += sent
                self.assertEqual(sent, other.bring(place))
                self.assertEqual(told_by(one, 5), told_by(other, 5))
            self.when_none_waits(one, self.WAITS, 0, ever)

    def test_a_change_of_the_waits_in_the_middle(self):
        for many_steps in range(12):
            waits = copy.deepcopy(self.WAITS)
            one, other = Net(waits, 0), Net(self.WAITS, 0)
            for _ in range(many_steps):
                one.bring(0)
                other.bring(0)
            self.spoil(waits)
            for _ in turns(other, self.WAITS):
                self.assertEqual(one.bring(0), other.bring(0))
                self.assertEqual(told_by(one, 5), told_by(other, 5))
            self.assertEqual((one.letters(), one.rung()), ([], False))

    def spoil(self, waits):
        """Change all that can be changed in a list of waits."""
        for wait in waits:
            if wait is not None:
                wait[1].append(4)
                wait[1][0] = 3
                wait[1].reverse()
        waits[3] = ("all", [0])
        waits.reverse()
        waits.clear()

    def test_the_waits_may_be_used_again(self):
        waits = copy.deepcopy(self.WAITS)
        Net(waits, 0).bring(0)
        self.assertIs(need(waits), True)
        self.assertEqual(freed(waits), freed(self.WAITS))
        self.assertEqual(told_by(Net(waits, 0), 5), told_by(Net(self.WAITS, 0), 5))


if __name__ == "__main__":
    unittest.main()

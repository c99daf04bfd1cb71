"""Promises 6, 7 and 10: the row of a net, letter by letter, and what it tells."""

import copy
import unittest

from stuckbell import net as net_file
from stuckbell.net import Net
from tests.kit import all_waits, mixed_waits
from tests.model import ORDERS, both, cycles, many_nets, mixed, told_by, turns


class NetCase(unittest.TestCase):
    def tells(self, net, many, letters, sent, rung, shown, owed, wakers, freed):
        wanted = (letters, sent, rung, shown, owed, wakers, freed)
        self.assertEqual(told_by(net, many), wanted)
        self.assertIs(net.rung(), rung)
        for told in (net.letters(), net.shown()):
            self.assertIs(type(told), list)
        for hand in range(many):
            self.assertIs(type(net.owed_by(hand)), int)
            self.assertIs(type(net.freed_yet(hand)), bool)
        for letter in net.letters():
            self.assertIs(type(letter), tuple)


class TestLetterByLetter(NetCase):
    """Whole rows, worked out by hand from the points."""

    def brings(self, net, place, sent, many_sent, rung, shown, owed, wakers, freed):
        row = net.letters()
        told = net.bring(place)
        self.assertIs(type(told), list)
        self.assertEqual(told, sent)
        row = row[:place] + row[place + 1:] + sent
        freed = [hand in freed for hand in range(len(owed))]
        self.tells(net, len(owed), row, many_sent, rung, shown, owed, wakers, freed)

    def test_one_hand_that_goes_on(self):
        self.tells(Net([None], 0), 1, [], 0, False, [], [0], [None], [True])

    def test_one_hand_that_waits_for_itself(self):
        for word in ("all", "any"):
            net = Net([(word, [0])], 0)
            row = [("ask", 0, 0)]
            self.tells(net, 1, row, 1, None, [0], [1], [None], [False])
            self.brings(net, 0, [("back", 0, 0)], 2, None, [0], [1], [None], [])
            self.brings(net, 0, [], 2, True, [0], [0], [None], [])

    def test_an_asker_that_goes_on(self):
        net = Net([("all", [0]), None, ("any", [1])], 1)
        freed = [False, True, False]
        self.tells(net, 3, [], 0, False, [], [0, 0, 0], [None] * 3, freed)

    def test_an_asker_that_waits_for_one_that_goes_on(self):
        for word in ("all", "any"):
            net = Net([None, (word, [0])], 1)
            row = [("ask", 1, 0)]
            self.tells(net, 2, row, 1, None, [1], [0, 1], [None, None], [True, False])
            self.brings(net, 0, [("freed", 0, 1)], 2, None, [1], [1, 1], [1, None], [0])
            self.brings(net, 0, [("back", 1, 0)], 3, None, [], [1, 1], [1, None], [0, 1])
            self.brings(net, 0, [("back", 0, 1)], 4, None, [], [0, 1], [None] * 2, [0, 1])
            self.brings(net, 0, [], 4, False, [], [0, 0], [None] * 2, [0, 1])

    def test_two_that_wait_for_each_other(self):
        for word in ("all", "any"):
            net = Net([(word, [1]), (word, [0])], 0)
            row = [("ask", 0, 1)]
            self.tells(net, 2, row, 1, None, [0], [1, 0], [None] * 2, [False] * 2)
            self.brings(net, 0, [("ask", 1, 0)], 2, None, [0, 1], [1, 1], [None, 0], [])
            self.brings(net, 0, [("back", 0, 1)], 3, None, [0, 1], [1, 1], [None, 0], [])
            self.brings(net, 0, [("back", 1, 0)], 4, None, [0, 1], [1, 0], [None] * 2, [])
            self.brings(net, 0, [], 4, True, [0, 1], [0, 0], [None] * 2, [])

    def test_three_hands_first_letter_first(self):
        net = Net([("all", [1, 2]), None, ("any", [0, 1])], 0)
        row = [("ask", 0, 1), ("ask", 0, 2)]
        freed = [False, True, False]
        self.tells(net, 3, row, 2, None, [0], [2, 0, 0], [None] * 3, freed)
        none = None
        for step in (
            ([("freed", 1, 0)], 3, none, [0], [2, 1, 0], [none, 0, none], [1]),
            ([("ask", 2, 0), ("ask", 2, 1)],
             5, none, [0, 2], [2, 1, 2], [none, 0, 0], [1]),
            ([("back", 0, 1)], 6, none, [0, 2], [2, 1, 2], [none, 0, 0], [1]),
            ([("back", 0, 2)], 7, none, [0, 2], [2, 1, 2], [none, 0, 0], [1]),
            ([("back", 1, 2), ("freed", 1, 2)],
             9, none, [0, 2], [2, 2, 2], [none, 0, 0], [1]),
            ([], 9, none, [0, 2], [2, 1, 2], [none, 0, 0], [1]),
            ([], 9, none, [0, 2], [2, 1, 1], [none, 0, 0], [1]),
            ([("back", 2, 0)], 10, none, [0, 2], [2, 1, 0], [none, 0, none], [1]),
            ([("freed", 2, 0)], 11, none, [0], [2, 1, 1], [none, 0, 1], [1, 2]),
            ([], 11, none, [0], [1, 1, 1], [none, 0, 1], [1, 2]),
            ([("back", 0, 2), ("freed", 0, 2)],
             13, none, [], [2, 1, 1], [none, 0, 1], [0, 1, 2]),
            ([("back", 2, 1)], 14, none, [], [2, 1, 0], [none, 0, none], [0, 1, 2]),
            ([("back", 2, 0)], 15, none, [], [2, 1, 0], [none, 0, none], [0, 1, 2]),
            ([("back", 1, 0)], 16, none, [], [2, 0, 0], [none] * 3, [0, 1, 2]),
            ([], 16, none, [], [1, 0, 0], [none] * 3, [0, 1, 2]),
            ([], 16, False, [], [0, 0, 0], [none] * 3, [0, 1, 2]),
        ):
            self.brings(net, 0, *step)

    def test_three_hands_last_letter_first(self):
        net = Net([("all", [1, 2]), None, ("any", [2])], 0)
        none = None
        for place, step in (
            # 2 is asked, and asks itself
            (1, ([("ask", 2, 2)], 3, none, [0, 2], [2, 0, 1], [none, none, 0], [1])),
            (1, ([("back", 2, 2)], 4, none, [0, 2], [2, 0, 1], [none, none, 0], [1])),
            (1, ([("back", 2, 0)], 5, none, [0, 2], [2, 0, 0], [none] * 3, [1])),
            (1, ([], 5, none, [0, 2], [1, 0, 0], [none] * 3, [1])),
            # only now 1 is
            (0, ([("freed", 1, 0)], 6, none, [0, 2], [1, 1, 0], [none, 0, none], [1])),
            (0, ([("back", 0, 1)], 7, none, [0, 2], [1, 1, 0], [none, 0, none], [1])),
            (0, ([("back", 1, 0)], 8, none, [0, 2], [1, 0, 0], [none] * 3, [1])),
            (0, ([], 8, True, [0, 2], [0, 0, 0], [none] * 3, [1])),
        ):
            self.brings(net, place, *step)

    def test_a_hand_that_is_asked_by_several(self):
        net = Net([("all", [1, 2]), ("any", [3]), ("all", [3]), ("all", [1])], 0)
        none = None
        for place, step in (
            (0, ([("ask", 1, 3)], 3, none, [0, 1], [2, 1, 0, 0], [none, 0, none, none], [])),
            (0, ([("ask", 2, 3)], 4, none, [0, 1, 2], [2, 1, 1, 0], [none, 0, 0, none], [])),
            (1, ([("ask", 3, 1)], 5, none, [0, 1, 2, 3], [2, 1, 1, 1], [none, 0, 0, 2], [])),
            (0, ([("back", 3, 1)], 6, none, [0, 1, 2, 3], [2, 1, 1, 1], [none, 0, 0, 2], [])),
            (1, ([("back", 1, 0)], 7, none, [0, 1, 2, 3], [2, 0, 1, 1], [none, none, 0, 2], [])),
            (0, ([("back", 1, 3)], 8, none, [0, 1, 2, 3], [2, 0, 1, 1], [none, none, 0, 2], [])),
            (1, ([("back", 3, 2)], 9, none, [0, 1, 2, 3], [2, 0, 1, 0], [none, none, 0, none], [])),
            (1, ([("back", 2, 0)], 10, none, [0, 1, 2, 3], [2, 0, 0, 0], [none] * 4, [])),
            (1, ([], 10, none, [0, 1, 2, 3], [1, 0, 0, 0], [none] * 4, [])),
            (0, ([], 10, True, [0, 1, 2, 3], [0, 0, 0, 0], [none] * 4, [])),
        ):
            self.brings(net, place, *step)


class TestTheRow(NetCase):
    def test_any_place_may_come_and_the_rest_keeps_its_order(self):
        waits = [("all", [0, 3, 1, 2]), None, None, None]
        asks = [("ask", 0, hand) for hand in (0, 3, 1, 2)]
        answers = [("back", 0, 0), ("freed", 3, 0), ("freed", 1, 0), ("freed", 2, 0)]
        for place in range(4):
            net = Net(waits, 0)
            self.assertEqual(net.letters(), asks)
            self.assertEqual(net.bring(place), [answers[place]])
            self.assertEqual(net.letters(), asks[:place] + asks[place + 1:] + [answers[place]])
            self.assertEqual(net.sent(), 5)

    def test_a_letter_that_brings_forth_none(self):
        net = Net([("all", [0, 1]), None], 0)
        net.bring(0)
        self.assertEqual(net.letters(), [("ask", 0, 1), ("back", 0, 0)])
        self.assertEqual(net.bring(1), [])
        self.assertEqual(net.letters(), [("ask", 0, 1)])
        self.assertEqual(net.sent(), 3)

    def test_forty_hands_begin(self):
        hands = list(range(39, -1, -1))
        net = Net([None] * 39 + [("any", hands)], 39)
        self.assertEqual(net.letters(), [("ask", 39, hand) for hand in hands])
        self.assertEqual((net.sent(), net.owed_by(39), net.rung()), (40, 40, None))

    def test_the_interface(self):
        self.assertEqual(Net.__module__, "stuckbell.net")
        self.assertIs(net_file.Net, Net)
        for name in (
            "letters", "bring", "sent", "rung", "shown", "owed_by", "waker_of", "freed_yet",
        ):
            self.assertIn(name, vars(Net))
        net = Net(waits=[None, ("all", [0])], asker=1)
        self.assertEqual(net.bring(place=0), [("freed", 0, 1)])
        told = (net.owed_by(hand=0), net.waker_of(hand=0), net.freed_yet(hand=0))
        self.assertEqual(told, (1, 1, True))


class TestNothingIsKept(NetCase):
    def test_a_change_of_the_lists_that_were_told(self):
        waits = [("all", [1, 2]), ("any", [0, 2]), None]
        for order in ORDERS:
            model, net = both(waits, 0)
            step = 0
            while model.row:
                net.letters().clear()
                net.letters().append(("ask", 0, 1))
                net.shown().append(2)
                net.shown().clear()
                place = order(model.row, step)
                model.bring(place)
                told = net.bring(place)
                told.append(("back", 1, 0))
                told.reverse()
                step += 1
                self.assertEqual(told_by(net, 3), model.told_by())

    def test_a_list_that_was_told_stays(self):
        waits = [("all", [1, 2]), ("any", [0, 2]), None]
        net = Net(waits, 0)
        row, shown, told = net.letters(), net.shown(), net.bring(0)
        kept = copy.deepcopy((row, shown, told))
        for _ in turns(net, waits):
            net.bring(0)
        self.assertEqual((row, shown, told), kept)

    def test_asking_changes_nothing(self):
        waits = [("all", [1]), ("all", [0])]
        net = Net(waits, 0)
        for _ in turns(net, waits):
            before = told_by(net, 2)
            for _ in range(3):
                self.assertEqual(told_by(net, 2), before)
            net.bring(0)


class TestAsThePointsTell(NetCase):
    def follow(self, waits, asker, order):
        model, net = both(waits, asker)
        self.assertEqual(told_by(net, len(waits)), model.told_by())
        step = 0
        while model.row:
            place = order(model.row, step)
            self.assertEqual(net.bring(place), model.bring(place))
            self.assertEqual(told_by(net, len(waits)), model.told_by())
            step += 1

    def every_order(self, waits, asker):
        """Follow each way in which the letters can come; how many states there are."""
        found = [both(waits, asker)]
        seen = {found[0][0].key()}
        while found:
            model, net = found.pop()
            for place in range(len(model.row)):
                model_then, net_then = copy.deepcopy((model, net))
                self.assertEqual(net_then.bring(place), model_then.bring(place))
                self.assertEqual(told_by(net_then, len(waits)), model_then.told_by())
                if model_then.key() not in seen:
                    seen.add(model_then.key())
                    found.append((model_then, net_then))
        return len(seen)

    def test_every_order_of_one_hand_and_of_two(self):
        for many in (1, 2):
            for waits in all_waits(many):
                for asker in range(many):
                    self.every_order(waits, asker)

    def test_every_order_of_three_hands(self):
        for waits in (
            [("all", [1, 2]), None, ("any", [0, 1])],
            [("any", [2, 1]), ("all", [1, 0]), None],
            [("any", [1]), ("any", [2]), ("any", [0])],
            [("all", [1, 2]), ("all", [2]), ("any", [1])],
            [("any", [1, 2]), ("all", [0, 2]), None],
        ):
            self.assertGreater(self.every_order(waits, 0), 5)

    def test_many_waits_and_orders(self):
        for turn, (waits, asker) in enumerate(many_nets()):
            self.follow(waits, asker, ORDERS[turn % len(ORDERS)])

    def test_some_waits_in_all_orders(self):
        for order in ORDERS:
            for many in (3, 6):
                for waits in cycles(many):
                    self.follow(waits, many - 1, order)
            for many in (5, 9, 17):
                waits = mixed_waits(many, 3)
                for asker in range(many):
                    self.follow(waits, asker, order)

    def test_forty_hands_that_all_wait_for_all(self):
        for word in ("all", "any"):
            self.follow([(word, list(range(40)))] * 39 + [None], 7, mixed(5))


if __name__ == "__main__":
    unittest.main()

"""Promise 11: what nets refuse, with which error, and that it changes nothing."""

import unittest

from stuckbell.errors import BadWaits, NoHand, NoLetter
from stuckbell.net import Net
from stuckbell.waits import freed, need, shows, stuck
from tests.kit import (
    NO_HANDS, NO_LISTS, NO_WAITS, ODD_THINGS, all_waits, mixed_waits, refusal, snapshot,
)
from tests.model import both, by_turns, told_by

WAITS = [("all", [1, 2]), ("any", [0, 3]), ("all", [3]), None, ("any", [4, 1])]


class TestTheMaking(unittest.TestCase):
    def bad_at(self, waits, at):
        for asker in (0, 1, -1, 40, True, False, None, "0", [0], Net):
            place = refusal(self, BadWaits, Net, waits, asker).at
            self.assertEqual((type(place), place), (type(at), at))

    def test_no_list_of_waits(self):
        for waits in NO_LISTS + ODD_THINGS + ([], [None] * 41, ["none"] * 50):
            self.bad_at(waits, None)

    def test_each_bad_thing(self):
        for thing in NO_WAITS + ODD_THINGS:
            self.bad_at([thing, None], 0)
            self.bad_at([None, thing], 1)
            self.bad_at([("all", [1, 0]), thing], 1)
            self.bad_at([thing, thing], 0)

    def test_each_place(self):
        for many in (1, 2, 7, 39, 40):
            for at in range(many):
                waits = [None, ("all", [0]), ("any", [many - 1])] * 14
                waits = waits[:many]
                waits[at] = ("any", [many])
                self.bad_at(waits, at)
                waits[many - 1] = True
                self.bad_at(waits, at)

    def test_no_asker(self):
        for asker in NO_HANDS + ODD_THINGS:
            refusal(self, NoHand, Net, WAITS, asker)
            refusal(self, NoHand, Net, [None], asker)

    def test_an_asker_of_these_waits(self):
        for many in (1, 2, 7, 39, 40):
            for waits in ([None] * many, [("all", [0])] * many):
                for asker in (many, many + 1, -1, -many, 40, True, False):
                    refusal(self, NoHand, Net, waits, asker)
                for asker in range(many):
                    Net(waits, asker)

    def test_truths_ask_nothing(self):
        for waits in all_waits(2):
            refusal(self, NoHand, Net, waits, True)
            refusal(self, NoHand, Net, waits, False)

    def test_what_is_refused_stays(self):
        for waits, asker in (
            ([None, ("all", [0, 0])], 0), ([("any", [1]), ["none"]], 1),
            ([("any", [0, 1]), None], [0]), (WAITS, 5), ([], {}),
        ):
            before = snapshot([waits, asker])[2]
            self.assertRaises(ValueError, Net, waits, asker)
            self.assertEqual(snapshot([waits, asker])[2], before)


class TestABegunNet(unittest.TestCase):
    def steps(self, waits, asker):
        """A net behind each of its letters, with the model that it has to fit."""
        model, net = both(waits, asker)
        step = 0
        yield model, net
        while model.row:
            place = by_turns(model.row, step)
            self.assertEqual(net.bring(place), model.bring(place))
            step += 1
            yield model, net

    def test_no_hand(self):
        for model, net in self.steps(WAITS, 0):
            for hand in NO_HANDS + ODD_THINGS + (5, 6, -5):
                for call in (net.owed_by, net.waker_of, net.freed_yet):
                    refusal(self, NoHand, call, hand)
            self.assertEqual(told_by(net, 5), model.told_by())

    def test_the_hands_are_those_of_the_net(self):
        for many in (1, 2, 7, 39, 40):
            net = Net(mixed_waits(many, 2), many - 1)
            for call in (net.owed_by, net.waker_of, net.freed_yet):
                for hand in (many, many + 1, -1, -many, True, False, None):
                    refusal(self, NoHand, call, hand)
                for hand in range(many):
                    call(hand)

    def test_no_place_of_the_row(self):
        for model, net in self.steps(WAITS, 0):
            many = len(model.row)
            for place in NO_HANDS + ODD_THINGS + (many, many + 1, -1, -many, many + 10):
                refusal(self, NoLetter, net.bring, place)
            self.assertEqual(told_by(net, 5), model.told_by())

    def test_every_place_of_the_row_is_one(self):
        waits = [("all", list(range(40)))] + [None] * 39
        for place in range(40):
            net = Net(waits, 0)
            refusal(self, NoLetter, net.bring, 40)
            self.assertEqual(len(net.bring(place)), 1)
            self.assertEqual(net.sent(), 41)

    def test_an_empty_row_has_no_place(self):
        for waits in ([None], [None, ("all", [0])], [None] * 40):
            net = Net(waits, 0)
            for place in (0, 1, -1, True, False, None, "0", 10 ** 30):
                refusal(self, NoLetter, net.bring, place)
            self.assertEqual((net.letters(), net.sent(), net.rung()), ([], 0, False))

    def test_no_place_when_the_last_letter_has_come(self):
        net = Net([("any", [0])], 0)
        net.bring(0)
        net.bring(0)
        refusal(self, NoLetter, net.bring, 0)
        self.assertEqual((net.sent(), net.rung(), net.shown()), (2, True, [0]))

    def test_truths_bring_nothing(self):
        net = Net([("all", [0, 1]), None], 0)
        before = told_by(net, 2)
        refusal(self, NoLetter, net.bring, True)
        refusal(self, NoLetter, net.bring, False)
        self.assertEqual(told_by(net, 2), before)

    def test_refusals_between_all_letters(self):
        for asker in range(len(WAITS)):
            for model, net in self.steps(WAITS, asker):
                refusal(self, NoLetter, net.bring, len(model.row))
                refusal(self, NoLetter, net.bring, False)
                refusal(self, NoHand, net.owed_by, None)
                refusal(self, NoHand, net.waker_of, -1)
                refusal(self, NoHand, net.freed_yet, True)
                refusal(self, NoHand, Net, WAITS, 9)
                refusal(self, BadWaits, Net, [("all", [])], 0)
                self.assertEqual(told_by(net, 5), model.told_by())


class TestTheWaitsToo(unittest.TestCase):
    def test_bad_waits_everywhere(self):
        for call in (need, freed, stuck):
            for waits in NO_LISTS + ODD_THINGS:
                self.assertIsNone(refusal(self, BadWaits, call, waits).at)
        for waits in NO_LISTS + ODD_THINGS:
            self.assertIsNone(refusal(self, BadWaits, shows, waits, [True]).at)

    def test_no_hand_in_the_list(self):
        for hand in NO_HANDS + ODD_THINGS + (5,):
            refusal(self, NoHand, shows, WAITS, [hand])
            refusal(self, NoHand, shows, WAITS, [4, hand, 0])


if __name__ == "__main__":
    unittest.main()

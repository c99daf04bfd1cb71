"""All hands with the row of their letters, and the bell of the one that asks."""

from stuckbell.errors import NoLetter
from stuckbell.hand import Hand
from stuckbell.waits import is_below, need, need_hand


class Net:
    """Hands that wait for each other; one of them, the asker, has begun."""

    def __init__(self, waits, asker):
        need(waits)
        need_hand(asker, len(waits))
        self._hands = [
            Hand(number, wait, number == asker) for number, wait in enumerate(waits)
        ]
        self._asker = asker
        self._row = []
        self._many_sent = 0
        self._put_behind(self._hands[asker].begin())

    def letters(self):
        """The letters that wait, in the order of the row."""
        return list(self._row)

    def bring(self, place):
        """Let the letter at that place come; the letters that are sent then."""
        if not is_below(place, len(self._row)):
            raise NoLetter("there is no letter at that place")
        letter = self._row.pop(place)
        replies = self._hands[letter[2]].come(letter)
        self._put_behind(replies)
        return replies

    def sent(self):
        """How many letters were sent so far."""
        return self._many_sent

    def rung(self):
        """None until the bell has rung, then whether the asker is stuck."""
        asker = self._hands[self._asker]
        if asker.owed > 0:
            return None
        return not asker.is_freed

    def shown(self):
        """The hands that have asked and are not freed, rising."""
        return [
            number
            for number, hand in enumerate(self._hands)
            if hand.has_asked and not hand.is_freed
        ]

    def owed_by(self, hand):
        """What a hand is owed."""
        return self._found(hand).owed

    def waker_of(self, hand):
        """The waker of a hand, or None."""
        return self._found(hand).waker

    def freed_yet(self, hand):
        """Whether a hand is freed."""
        return self._found(hand).is_freed

    def _found(self, number):
        """The hand of that number; whatever is no hand is refused with NoHand."""
        need_hand(number, len(self._hands))
        return self._hands[number]

    def _put_behind(self, letters):
        """Put letters that are sent behind the others."""
        # The row takes the letters, not the list: that one is handed out.
        self._row.extend(letters)
        self._many_sent += len(letters)

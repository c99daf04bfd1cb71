"""One hand: what it keeps, and which letters it sends when one comes."""


class Hand:
    """A hand that asks those that it waits for, and tells those that asked it."""

    def __init__(self, number, wait, is_asker):
        self.is_freed = wait is None
        self.has_asked = False
        self.askers = []
        self.owed = 0
        self.waker = None
        self._number = number
        self._is_asker = is_asker
        self._word = None if wait is None else wait[0]
        # A copy: the list that was handed in may be changed later.
        self._waits_for = [] if wait is None else list(wait[1])
        self._asked_by = []
        self._told_by = {}

    def begin(self):
        """The letters with which the asker begins: none if it goes on."""
        if not self._waits_for:
            return []
        return self._ask()

    def come(self, letter):
        """The letters that this hand sends, in their order, when a letter comes."""
        word, sender, _ = letter
        if word == "back":
            self.owed -= 1
            return self._fall_asleep()
        letters = self._wake_up(sender)
        if word == "ask":
            letters.extend(self._answer(sender))
        else:
            letters.extend(self._hear(sender))
        # Only now: what was sent just above is owed, and keeps the hand awake.
        letters.extend(self._fall_asleep())
        return letters

    def _wake_up(self, sender):
        """Take the sender as waker, or send its letter back if awake already."""
        if self._is_asker or self.waker is not None:
            return [("back", self._number, sender)]
        self.waker = sender
        return []

    def _answer(self, sender):
        """Tell the one that asks, or keep it until there is something to tell."""
        if self.is_freed:
            return self._send("freed", [sender])
        self._asked_by.append(sender)
        # The field is read from outside, so it is a list of its own.
        self.askers = list(self._asked_by)
        if self.has_asked:
            return []
        return self._ask()

    def _hear(self, sender):
        """Keep that the sender is freed; whoever is freed by that tells its askers."""
        self._told_by[sender] = True
        if self.is_freed or not self._is_let_go():
            return []
        self.is_freed = True
        return self._send("freed", self._asked_by)

    def _is_let_go(self):
        """Whether those that told it so, one at least, free this hand."""
        if self._word == "any":
            return True
        return all([hand in self._told_by for hand in self._waits_for])

    def _fall_asleep(self):
        """Send the waker's letter back as soon as nothing is owed any more."""
        if self.owed > 0 or self.waker is None:
            return []
        waker = self.waker
        self.waker = None
        return [("back", self._number, waker)]

    def _ask(self):
        """Ask each hand that this one waits for."""
        self.has_asked = True
        return self._send("ask", self._waits_for)

    def _send(self, word, receivers):
        """Letters that are owed from now on, until they have come back."""
        self.owed += len(receivers)
        return [(word, self._number, receiver) for receiver in receivers]

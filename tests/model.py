"""Points [6] to [10] told once more, over plain lists: a second opinion on nets."""

from stuckbell.net import Net
from tests.kit import all_waits, mixed_waits


class Model:
    """What each hand keeps, by hand, and the row; written after the points."""

    def __init__(self, waits, asker):
        many = len(waits)
        self.waits = waits
        self.asker = asker
        self.freed = [wait is None for wait in waits]
        self.asked = [False] * many
        self.askers = [[] for _ in range(many)]
        self.told = [set() for _ in range(many)]
        self.owed = [0] * many
        self.waker = [None] * many
        self.row = []
        self.ever = []
        if waits[asker] is not None:
            self.ask(asker)

    def send(self, word, sender, receiver):
        self.row.append((word, sender, receiver))
        self.ever.append((word, sender, receiver))
        if word != "back":
            self.owed[sender] += 1

    def ask(self, hand):
        self.asked[hand] = True
        for other in self.waits[hand][1]:
            self.send("ask", hand, other)

    def bring(self, place):
        before = len(self.ever)
        word, sender, hand = self.row[place]
        del self.row[place]
        if word == "back":
            self.owed[hand] -= 1
        elif hand == self.asker or self.waker[hand] is not None:
            self.send("back", hand, sender)
        else:
            self.waker[hand] = sender
        if word == "ask":
            self.be_asked(hand, sender)
        if word == "freed":
            self.be_told(hand, sender)
        if self.owed[hand] == 0 and self.waker[hand] is not None:
            self.send("back", hand, self.waker[hand])
            self.waker[hand] = None
        return self.ever[before:]

    def be_asked(self, hand, sender):
        if self.freed[hand]:
            self.send("freed", hand, sender)
            return
        self.askers[hand].append(sender)
        if not self.asked[hand]:
            self.ask(hand)

    def be_told(self, hand, sender):
        self.told[hand].add(sender)
        word, others = self.waits[hand]
        enough = word == "any" or set(others) <= self.told[hand]
        if enough and not self.freed[hand]:
            self.freed[hand] = True
            for asker in self.askers[hand]:
                self.send("freed", hand, asker)

    def rung(self):
        return None if self.owed[self.asker] else not self.freed[self.asker]

    def shown(self):
        pairs = zip(self.asked, self.freed)
        return [hand for hand, pair in enumerate(pairs) if pair == (True, False)]

    def ever_asked(self):
        """The hands that anybody has asked, and the asker."""
        receivers = {hand for word, _, hand in self.ever if word == "ask"}
        return sorted(receivers | {self.asker})

    def many_outward(self):
        """How many letters were no `back`."""
        return len([letter for letter in self.ever if letter[0] != "back"])

    def told_by(self):
        """What a net of the same waits has to tell now."""
        return (
            self.row, len(self.ever), self.rung(), self.shown(),
            self.owed, self.waker, self.freed,
        )

    def key(self):
        """The same for two models from which the same letters can come."""
        told = [sorted(hands) for hands in self.told]
        return repr((sorted(self.row), self.told_by()[2:], self.asked, self.askers, told))


def told_by(net, many):
    """All that a net of so many hands tells."""
    return (
        net.letters(), net.sent(), net.rung(), net.shown(),
        [net.owed_by(hand) for hand in range(many)],
        [net.waker_of(hand) for hand in range(many)],
        [net.freed_yet(hand) for hand in range(many)],
    )


def both(waits, asker, places=()):
    """A model and a net of the same waits, to which the same letters came."""
    model, net = Model(waits, asker), Net(waits, asker)
    for place in places:
        model.bring(place)
        net.bring(place)
    return model, net


def most_letters(waits):
    """How many letters a net of these waits sends at most: each hand asks once,
    is told once by each that it asked, and all of that comes back."""
    return 4 * sum(len(wait[1]) for wait in waits if wait is not None)


def turns(net, waits):
    """Count up as long as letters wait in the net, if they ever end."""
    for step in range(most_letters(waits)):
        if not net.letters():
            return
        yield step
    if net.letters():
        raise AssertionError("the letters do not end")


def first(row, step):
    return 0


def last(row, step):
    return len(row) - 1


def by_turns(row, step):
    return 0 if step % 2 else len(row) - 1


def middle(row, step):
    return len(row) // 2


def mixed(seed):
    """Any place of the row, the same ones for the same seed."""

    def place(row, step):
        return (seed * 7919 + step * 104729 + step * step * 31 + step // 3) % len(row)

    return place


def early(*words):
    """Letters of the earlier words come first, those of the last one last."""

    def place(row, step):
        ranks = [words.index(letter[0]) for letter in row]
        return ranks.index(min(ranks))

    return place


# Ways to choose which letter comes next, each a function of the row and of how
# many letters have come.
ORDERS = (
    first, last, by_turns, middle, mixed(1), mixed(2), mixed(3),
    early("back", "ask", "freed"), early("back", "freed", "ask"),
    early("ask", "back", "freed"), early("ask", "freed", "back"),
    early("freed", "ask", "back"), early("freed", "back", "ask"),
)


def cycles(many):
    """Waits of so many hands, each for the next ones, with and without a way out."""
    every = list(range(many))
    found = []
    for word in ("all", "any"):
        ring = [(word, [(hand + 1) % many]) for hand in every]
        found += [ring, ring[:-1] + [None]]
        found += [[(word, every)] * many, [(word, every[::-1])] * (many - 1) + [None]]
        found.append([None] + [(word, [hand]) for hand in range(many - 1)])
        found.append([(word, [hand]) for hand in every])
    return found


def many_nets():
    """Waits of all sizes, each with some of its hands as the asker."""
    for many in (1, 2):
        for waits in all_waits(many):
            for asker in range(many):
                yield waits, asker
    for waits in all_waits(3)[::7]:
        yield waits, len(repr(waits)) % 3
    for many in (3, 4, 7, 39, 40):
        for waits in cycles(many):
            yield waits, many // 2
    for many in range(4, 41):
        for seed in range(6):
            waits = mixed_waits(many, seed)
            waiting = [hand for hand in range(many) if waits[hand] is not None]
            for hand in waiting[:2]:
                yield waits, hand

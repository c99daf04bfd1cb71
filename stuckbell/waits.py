"""Waits: in which round each hand is freed, and who never is."""

from stuckbell.errors import BadWaits, NoHand

MOST_HANDS = 40


def need(waits):
    """True for good waits; whatever else is handed in is refused with BadWaits."""
    if type(waits) is not list or not 1 <= len(waits) <= MOST_HANDS:
        raise BadWaits(None)
    for at, wait in enumerate(waits):
        if not is_wait(wait, len(waits)):
            raise BadWaits(at)
    return True


def freed(waits):
    """The round in which each hand is freed, or None for a hand that never is."""
    need(waits)
    rounds = [0 if wait is None else None for wait in waits]
    turn = 1
    ready = ready_hands(waits, rounds)
    while ready:
        for hand in ready:
            rounds[hand] = turn
        turn += 1
        ready = ready_hands(waits, rounds)
    return rounds


def stuck(waits):
    """The hands that are never freed, rising."""
    return [hand for hand, turn in enumerate(freed(waits)) if turn is None]


def shows(waits, hands):
    """Whether the hands of a list show that they are stuck."""
    need(waits)
    need_hands(hands, len(waits))
    shown = sorted(set(hands))
    return all([is_held(waits[hand], shown) for hand in shown])


def is_below(number, many):
    """Whether this is a whole number from nought on, and below so many."""
    # Here and below a thing is asked for its very kind: True and False are no
    # whole numbers, and what was handed in may raise or lie if isinstance asks
    # it for its class, where it must be refused all the same.
    return type(number) is int and 0 <= number < many


def need_hand(hand, many):
    """Refuse with NoHand what is none of so many hands."""
    if not is_below(hand, many):
        raise NoHand("there is no such hand")


def need_hands(hands, many):
    """Refuse with NoHand what is no list of hands, of so many as there are."""
    if type(hands) is not list:
        raise NoHand("this is no list of hands")
    for hand in hands:
        need_hand(hand, many)


def is_wait(wait, many):
    """Whether this is a wait of one of so many hands."""
    if wait is None:
        return True
    if type(wait) is not tuple or len(wait) != 2:
        return False
    word, hands = wait
    # A word's kind comes first: what is no string may compare in any way.
    if type(word) is not str or word not in ("all", "any"):
        return False
    return are_waited_for(hands, many)


def are_waited_for(hands, many):
    """Whether this is a list of hands to wait for: one at least, none twice."""
    if type(hands) is not list or not hands:
        return False
    if not all([is_below(hand, many) for hand in hands]):
        return False
    return len(set(hands)) == len(hands)


def ready_hands(waits, rounds):
    """The hands that are not freed yet, but are by those that are."""
    # All of them are found before one is given its round, so that a hand's
    # round depends on earlier rounds only, not on the order of the hands.
    return [
        hand
        for hand, wait in enumerate(waits)
        if rounds[hand] is None and is_let_go(wait, rounds)
    ]


def is_let_go(wait, rounds):
    """Whether the hands that are freed so far free one that waits so."""
    word, hands = wait
    told = [rounds[hand] is not None for hand in hands]
    if word == "all":
        return all(told)
    return any(told)


def is_held(wait, shown):
    """Whether the shown hands alone would keep one that waits so from going on."""
    if wait is None:
        return False
    word, hands = wait
    among = [hand in shown for hand in hands]
    if word == "all":
        return any(among)
    return all(among)

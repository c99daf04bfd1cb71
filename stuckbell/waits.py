"""Waits: in which round each hand is freed, and who never is."""

from stuckbell.errors import BadWaits, NoHand

MOST_HANDS = 40


def need(waits):
    """True for good waits; whatever else is handed in is refused with BadWaits."""
    if not isinstance(waits, list) or not 1 <= len(waits) <= MOST_HANDS:
        raise BadWaits(None)
    for at, wait in enumerate(waits):
        if not is_wait(wait, len(waits)):
            raise BadWaits(at)
    return True


def freed(waits):
    """The round in which each hand is freed, or None for a hand that never is."""
    need(waits)
    rounds = [0 if wait is None else None for wait in waits]
    turn = 1
    ready = ready_hands(waits, rounds)
    while ready:
        for hand in ready:
            rounds[hand] = turn
        turn += 1
        ready = ready_hands(waits, rounds)
    return rounds


def stuck(waits):
    """The hands that are never freed, rising."""
    return [hand for hand, turn in enumerate(freed(waits)) if turn is None]


def shows(waits, hands):
    """Whether the hands of a list show that they are stuck."""
    need(waits)
    need_hands(hands, len(waits))
    shown = sorted(set(hands))
    return all([is_held(waits[hand], shown) for hand in shown])


def is_hand(hand, many):
    """Whether this is one of so many hands; True and False are none."""
    if not isinstance(hand, int) or isinstance(hand, bool):
        return False
    return 0 <= hand < many


def need_hands(hands, many):
    """Refuse with NoHand what is no list of hands, of so many as there are."""
    if not isinstance(hands, list):
        raise NoHand("this is no list of hands")
    for hand in hands:
        if not is_hand(hand, many):
            raise NoHand("there is no such hand")


def is_wait(wait, many):
    """Whether this is a wait of one of so many hands."""
    if wait is None:
        return True
    if not isinstance(wait, tuple) or len(wait) != 2:
        return False
    word, hands = wait
    # A word's kind comes first: what is no string may compare in any way.
    if not isinstance(word, str) or word not in ("all", "any"):
        return False
    return are_waited_for(hands, many)


def are_waited_for(hands, many):
    """Whether this is a list of hands to wait for: one at least, none twice."""
    if not isinstance(hands, list) or not hands:
        return False
    if not all([is_hand(hand, many) for hand in hands]):
        return False
    return len(set(hands)) == len(hands)


def ready_hands(waits, rounds):
    """The hands that are not freed yet, but are by those that are."""
    # All of them are found before one is given its round, so that a hand's
    # round depends on earlier rounds only, not on the order of the hands.
    return [
        hand
        for hand, wait in enumerate(waits)
        if rounds[hand] is None and is_let_go(wait, rounds)
    ]


def is_let_go(wait, rounds):
    """Whether the hands that are freed so far free one that waits so."""
    word, hands = wait
    told = [rounds[hand] is not None for hand in hands]
    if word == "all":
        return all(told)
    return any(told)


def is_held(wait, shown):
    """Whether the shown hands alone would keep one that waits so from going on."""
    if wait is None:
        return False
    word, hands = wait
    among = [hand in shown for hand in hands]
    if word == "all":
        return any(among)
    return all(among)

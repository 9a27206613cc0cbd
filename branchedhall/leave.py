"""Leave: the keys on which it hangs, the names that give it [9], and the rule that bars a deed [10]."""

from branchedhall.deeds import ABOUT, BODY, KIND, WHO, WORDS
from branchedhall.ranks import BEGIN_KEY, DOOR_KEY, RANKS_KEY
from branchedhall.ranks import body_for, door_in, people_by, people_in, rank_in, seat_in, wanted_by, wanted_in
from branchedhall.ranks import who_began
from branchedhall.words import house_of

# By these rules a house may strike out its own people's deeds, whatever the rank.
OWN_STRIKES_RULES = 2
TAKEN_SEATS = ("in", "called")


def keys_for(kind, who, about, body):
    """The keys on which the leave of such a deed hangs."""
    if kind == "begin":
        return []
    keys = [BEGIN_KEY, RANKS_KEY, ("seat", who)]
    if kind == "seat" and about != who:
        keys.append(("seat", about))
    if kind == "seat" and body == "in":
        keys.append(DOOR_KEY)
    return keys


def leave_keys(deed):
    """The keys on which the leave of a deed hangs."""
    return keys_for(deed[KIND], deed[WHO], deed[ABOUT], deed[BODY])


def leave_for(state, kind, who, about, body):
    """The names that give such a deed leave by a state."""
    return tuple(sorted({state[key] for key in keys_for(kind, who, about, body) if key in state}))


def bar_less(hall, state, who, word):
    """Bars whose rank is less than that wanted for a word."""
    wanted = wanted_in(hall, state, word)
    # Of 0, with which what is done most often is wanted, no rank is less: so it needn't be looked for.
    return "rank" if wanted > 0 and rank_in(hall, state, who) < wanted else None


def bar_coming(hall, state, who, about):
    """Bars who may not come in, or not in another one's stead."""
    if about != who:
        return "other"
    seat = seat_in(hall, state, who)
    if seat == "barred":
        return "barred"
    if seat in TAKEN_SEATS or door_in(hall, state) == "open" or who == who_began(hall, state):
        return None
    return "door"


def bar_calling(hall, state, who, about):
    """Bars who may not call another one in."""
    seat = seat_in(hall, state, about)
    if seat == "in":
        return "there"
    if seat == "barred":
        return "barred"
    return bar_less(hall, state, who, "call")


def bar_putting(hall, state, who, about, word):
    """Bars who may not put somebody out, or bar somebody, by the word for it."""
    rule = bar_less(hall, state, who, word)
    # Putting out one who is barred takes the bar away.
    if rule is None and seat_in(hall, state, about) == "barred":
        rule = bar_less(hall, state, who, "bar")
    if rule is None and rank_in(hall, state, about) >= rank_in(hall, state, who):
        rule = "above"
    return rule


def bar_seat(hall, state, who, about, body):
    """Bars who may not change this seat so, be it one's own."""
    if body == "in":
        return bar_coming(hall, state, who, about)
    seat = seat_in(hall, state, who)
    if body == "out" and about == who:
        return None if seat in TAKEN_SEATS else "seat"
    if seat != "in":
        return "seat"
    if body == "called":
        return bar_calling(hall, state, who, about)
    return bar_putting(hall, state, who, about, "out" if body == "out" else "bar")


def changes_above(elder, newer, own):
    """Whether a rank becomes another one, and is above one's own ahead of it or behind it."""
    return elder != newer and max(elder, newer) > own


def takes_from_equal(elder, newer, own):
    """Whether a rank becomes another one that is one's own ahead of it."""
    return elder != newer and elder == own


def bar_ranks(hall, state, who, body):
    """Bars who may not change the ranks so."""
    if bar_less(hall, state, who, "ranks") is not None:
        return "rank"
    elder = people_in(hall, state)
    newer = people_by(body)
    own = elder.get(who, 0)
    for person in [*elder, *newer]:
        ranks = (elder.get(person, 0), newer.get(person, 0))
        if changes_above(*ranks, own) or (person != who and takes_from_equal(*ranks, own)):
            return "above"
    for word in WORDS:
        if changes_above(wanted_in(hall, state, word), wanted_by(body, word), own):
            return "above"
    return None


def bar_strike(hall, state, who, struck):
    """Bars who may not strike this name out."""
    rules = body_for(hall, state, BEGIN_KEY, None)[0]
    if rules == OWN_STRIKES_RULES and struck[0] == house_of(who):
        return None
    return bar_less(hall, state, who, "strike")


def bar(hall, state, deed):
    """The first due rule that bars a deed by a state, or None."""
    kind, who, about, body = deed[KIND], deed[WHO], deed[ABOUT], deed[BODY]
    if kind == "begin":
        return "begun" if len(state) > 0 else None
    if BEGIN_KEY not in state:
        return "unbegun"
    if kind == "seat":
        return bar_seat(hall, state, who, about, body)
    if seat_in(hall, state, who) != "in":
        return "seat"
    if kind == "ranks":
        return bar_ranks(hall, state, who, body)
    if kind == "strike":
        return bar_strike(hall, state, who, body)
    return bar_less(hall, state, who, kind)

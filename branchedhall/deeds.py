"""Deeds: what is one, and the key of one [5]."""

from branchedhall.errors import NoDeed
from branchedhall.words import house_of, is_name, is_person, is_rank, is_whole

# The places of a deed's parts.
NAME = 0
KIND = 1
WHO = 2
ABOUT = 3
BODY = 4
AFTER = 5
LEAVE = 6

KINDS = ("begin", "seat", "ranks", "door", "say", "strike", "move")
WORDS = ("bar", "call", "door", "move", "out", "ranks", "say", "strike")
KEYED = ("begin", "seat", "ranks", "door", "move")
SEATS = ("in", "out", "called", "barred")
DOORS = ("open", "asked")
RULES = (1, 2)
MOST_PEOPLE = 20
MOST_SIGNS = 80
MOST_NAMES = 6
# What is sorted ahead of all names.
LEAST = ("", 0)


def is_one_of(thing, texts):
    """Whether a thing is one of some texts; no other thing is asked whether it equals one, for it might say so."""
    return isinstance(thing, str) and thing in texts


def is_pair(thing):
    """Whether a thing is a tuple of two."""
    return isinstance(thing, tuple) and len(thing) == 2


def is_rising(things):
    """Whether things of one kind are sorted, none of them twice."""
    return all([low < high for low, high in zip(things, things[1:])])


def is_rules(thing):
    """Whether a thing is a number of rules, which is also what a move's body is."""
    return is_whole(thing) and thing in RULES


def is_begin_body(body):
    """Whether a thing is rules with an elder, or with none."""
    return is_pair(body) and is_rules(body[0]) and (body[1] is None or is_name(body[1]))


def is_seat_body(body):
    """Whether a thing is one of the seats."""
    return is_one_of(body, SEATS)


def is_wanted_word(thing):
    """Whether a thing is one of the words that are wanted with a rank."""
    return is_one_of(thing, WORDS)


def is_ranking(rows, is_ranked):
    """Whether a thing is a sorted tuple of tuples (what is ranked, rank), nothing ranked twice."""
    if not isinstance(rows, tuple):
        return False
    if not all([is_pair(row) and is_ranked(row[0]) and is_rank(row[1]) for row in rows]):
        return False
    return is_rising([row[0] for row in rows])


def is_ranks_body(body):
    """Whether a thing is the ranks of some people and the ranks wanted for some words."""
    if not is_pair(body) or not is_ranking(body[0], is_person):
        return False
    return len(body[0]) <= MOST_PEOPLE and is_ranking(body[1], is_wanted_word)


def is_door_body(body):
    """Whether a thing tells how the door is."""
    return is_one_of(body, DOORS)


def is_say_body(body):
    """Whether a thing is a text that may be said."""
    # What is printable of ASCII are the signs from the blank to the last one but one.
    return isinstance(body, str) and len(body) <= MOST_SIGNS and body.isascii() and body.isprintable()


def is_strike_body(body):
    """Whether a thing is what may be struck out: any name, known or not."""
    return is_name(body)


BODIES = {
    "begin": is_begin_body,
    "seat": is_seat_body,
    "ranks": is_ranks_body,
    "door": is_door_body,
    "say": is_say_body,
    "strike": is_strike_body,
    "move": is_rules,
}


def is_body(kind, body):
    """Whether a thing is a body of this kind."""
    is_fit = BODIES[kind]
    return is_fit(body)


def is_about(kind, about):
    """Whether a thing is what a deed of this kind may be about."""
    if kind == "seat":
        return is_person(about)
    return isinstance(about, str) and about == ""


def is_names(kind, own, names):
    """Whether a thing may be the after or the leave of a deed of this kind with this name of its own."""
    if not isinstance(names, tuple) or len(names) > MOST_NAMES:
        return False
    if (kind == "begin") != (len(names) == 0):
        return False
    ahead = LEAST
    for name in names:
        # Looked at ahead of being compared: what is no name might say anything then.
        if not is_name(name) or name == own or name <= ahead:
            return False
        ahead = name
    return True


def wrong_part(deed):
    """The first part of a tuple of seven that isn't as told, or None."""
    name, kind, who, about, body, after, leave = deed
    if not is_name(name):
        return "name"
    if not is_one_of(kind, KINDS):
        return "kind"
    if not is_person(who):
        return "who"
    if not is_about(kind, about):
        return "about"
    if not is_body(kind, body):
        return "body"
    if not is_names(kind, name, after):
        return "after"
    if not is_names(kind, name, leave):
        return "leave"
    if house_of(who) != name[0]:
        return "house"
    return None


def look_at_deed(thing):
    """None of a deed; all else, of any kind, is refused with NoDeed."""
    if not isinstance(thing, tuple) or len(thing) != 7:
        raise NoDeed(None)
    part = wrong_part(thing)
    if part is not None:
        raise NoDeed(part)


def key_of(deed):
    """The key for which a deed may stand in a state, or None."""
    kind = deed[KIND]
    return (kind, deed[ABOUT]) if kind in KEYED else None


def with_body(deed, body):
    """The deed with another body."""
    return deed[:BODY] + (body,) + deed[BODY + 1:]

"""Ranks, the ranks that words are wanted with, seats and the door, by a state of a hall [8]."""

from branchedhall.deeds import BODY, WHO

BEGIN_KEY = ("begin", "")
RANKS_KEY = ("ranks", "")
DOOR_KEY = ("door", "")
FIRST_RANK = 100
NO_RANKS = ((), ())
FREE_WORDS = ("call", "say")
WANTED_ELSE = 50


def body_for(hall, state, key, otherwise):
    """The body of the deed that a state has for a key, or what is told where it has none."""
    return hall[state[key]][BODY] if key in state else otherwise


def who_began(hall, state):
    """The person who began, or None where the state has no begin."""
    return hall[state[BEGIN_KEY]][WHO] if BEGIN_KEY in state else None


def people_by(body):
    """The ranks that a ranks body tells, those of 0, too."""
    return dict(body[0])


def people_in(hall, state):
    """The ranks that are told by a state, perhaps some of 0; all people that aren't there have 0, too."""
    if RANKS_KEY in state:
        return people_by(hall[state[RANKS_KEY]][BODY])
    return {hall[state[BEGIN_KEY]][WHO]: FIRST_RANK} if BEGIN_KEY in state else {}


def wanted_by(body, word):
    """The rank that a word is wanted with where this ranks body stands."""
    for other, rank in body[1]:
        if other == word:
            return rank
    return 0 if word in FREE_WORDS else WANTED_ELSE


def rank_in(hall, state, person):
    """The rank of a person by a state."""
    return people_in(hall, state).get(person, 0)


def wanted_in(hall, state, word):
    """The rank that a word is wanted with by a state."""
    return wanted_by(hall[state[RANKS_KEY]][BODY] if RANKS_KEY in state else NO_RANKS, word)


def seat_in(hall, state, person):
    """The seat of a person by a state."""
    key = ("seat", person)
    return hall[state[key]][BODY] if key in state else "out"


def door_in(hall, state):
    """The door by a state."""
    return body_for(hall, state, DOOR_KEY, "asked")


def ranked(hall, state):
    """The ranks of all people that have one above 0 by a state."""
    people = people_in(hall, state)
    return {person: people[person] for person in people if people[person] > 0}

"""Ranks, the ranks that words are wanted with, seats and the door, by a state of a hall [8]."""

from branchedhall.deeds import BODY, WHO

BEGIN_KEY = ("begin", "")
RANKS_KEY = ("ranks", "")
DOOR_KEY = ("door", "")
FIRST_RANK = 100
FREE_WORDS = ("call", "say")
WANTED_ELSE = 50


def deed_for(hall, state, key):
    """The deed that a state has for a key, or None."""
    return hall[state[key]] if key in state else None


def body_for(hall, state, key, otherwise):
    """The body of the deed that a state has for a key, or what is told where it has none."""
    deed = deed_for(hall, state, key)
    return otherwise if deed is None else deed[BODY]


def who_began(hall, state):
    """The person who began, or None where the state has no begin."""
    deed = deed_for(hall, state, BEGIN_KEY)
    return None if deed is None else deed[WHO]


def people_by(body):
    """The ranks that a ranks body tells, those of 0, too."""
    return dict(body[0])


def people_in(hall, state):
    """The ranks that are told by a state, perhaps some of 0; all people that aren't there have 0, too."""
    body = body_for(hall, state, RANKS_KEY, None)
    if body is not None:
        return people_by(body)
    person = who_began(hall, state)
    return {} if person is None else {person: FIRST_RANK}


def wanted_by(body, word):
    """The rank that a word is wanted with where this ranks body stands."""
    return dict(body[1]).get(word, 0 if word in FREE_WORDS else WANTED_ELSE)


def rank_in(hall, state, person):
    """The rank of a person by a state."""
    return people_in(hall, state).get(person, 0)


def wanted_in(hall, state, word):
    """The rank that a word is wanted with by a state."""
    return wanted_by(body_for(hall, state, RANKS_KEY, ((), ())), word)


def seat_in(hall, state, person):
    """The seat of a person by a state."""
    return body_for(hall, state, ("seat", person), "out")


def door_in(hall, state):
    """The door by a state."""
    return body_for(hall, state, DOOR_KEY, "asked")


def ranked(hall, state):
    """The ranks of all people that have one above 0 by a state."""
    people = people_in(hall, state)
    return {person: people[person] for person in people if people[person] > 0}

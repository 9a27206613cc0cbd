"""Halls moved to new rules, and whether two halls are kept [25]."""

from branchedhall.deeds import NAME, WORDS, key_of, look_at_deed
from branchedhall.errors import Barred, NoDeed
from branchedhall.leave import bar, leave_for
from branchedhall.ranks import DOOR_KEY, FIRST_RANK, RANKS_KEY
from branchedhall.ranks import body_for, door_in, ranked, seat_in, wanted_in, who_began
from branchedhall.words import house_of, is_person, is_whole

MOVE_KEY = ("move", "")


def barred_people(hall, state):
    """All people whose seat is barred, sorted."""
    people = [about for kind, about in sorted(state) if kind == "seat"]
    return [person for person in people if seat_in(hall, state, person) == "barred"]


def ranks_body(hall, state):
    """The state's ranks body, or, where it has none, one that tells the same."""
    person = who_began(hall, state)
    first = () if person is None else ((person, FIRST_RANK),)
    return body_for(hall, state, RANKS_KEY, (first, ()))


def moved_rows(hall, state, person, rules):
    """What the new deeds do, in their order: tuples (kind, about, body)."""
    rows = [("begin", "", (rules, state.get(MOVE_KEY))), ("seat", person, "in")]
    rows.append(("ranks", "", ranks_body(hall, state)))
    if DOOR_KEY in state:
        rows.append(("door", "", door_in(hall, state)))
    rows.extend([("seat", other, "barred") for other in barred_people(hall, state)])
    return rows


def numbered(person, number, rows):
    """New deeds, each behind the one ahead, with the leave that the state of those ahead gives."""
    deeds = []
    state = {}
    for place, (kind, about, body) in enumerate(rows):
        name = (house_of(person), number + place)
        after = tuple([deed[NAME] for deed in deeds[-1:]])
        deeds.append((name, kind, person, about, body, after, leave_for(state, kind, person, about, body)))
        state[(kind, about)] = name
    return deeds


def first_bar(deeds):
    """What bars the first of some deeds that is barred by the state of those ahead, or None."""
    hall = {}
    state = {}
    for deed in deeds:
        rule = bar(hall, state, deed)
        if rule is not None:
            return rule
        hall[deed[NAME]] = deed
        state[key_of(deed)] = deed[NAME]
    return None


def moved(hall, state, person, *, number=0, rules):
    """The deeds of a new hall with the ranks, the door and the bars of a state, by a person who may move it."""
    if not is_person(person):
        raise NoDeed("who")
    # Where it is no number the first deed has no name, and none could be counted on from it.
    if not is_whole(number):
        raise NoDeed("name")
    deeds = numbered(person, number, moved_rows(hall, state, person, rules))
    for deed in deeds:
        look_at_deed(deed)
    rule = bar(hall, state, (deeds[0][NAME], "move", person, "", rules, (), ()))
    if rule is None:
        rule = first_bar(deeds)
    if rule is not None:
        raise Barred("move", rule)
    return deeds


def kept_things(hall, state):
    """What is kept where a hall is moved: ranks, words wanted, the door, and who is barred."""
    wanted = [wanted_in(hall, state, word) for word in WORDS]
    return (ranked(hall, state), wanted, door_in(hall, state), barred_people(hall, state))


def is_kept(hall, state, other, later):
    """Whether a hall with a state, and another one with a later state, are kept."""
    return kept_things(hall, state) == kept_things(other, later)

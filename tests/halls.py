"""Halls and states that several tests share, and halls by chance, the same in every run."""

import copy
import random

from branchedhall.chains import not_given
from branchedhall.deeds import look_at_deed

AMY, BOB, CYD, DAN = "amy@ash", "bob@birch", "cyd@ash", "dan@elm"
BEGIN, RANKS, DOOR, MOVE = ("begin", ""), ("ranks", ""), ("door", ""), ("move", "")
FIRST = ("ash", 0)

BODIES = {"begin": (1, None), "seat": "in", "ranks": ((), ()), "door": "open", "say": "good day", "strike": FIRST,
          "move": 1}


def seat(person):
    """The key of a person's seat."""
    return ("seat", person)


def deed(name, kind, who=None, about="", body=None, after=(FIRST,), leave=(FIRST,)):
    """A deed, by a person of the name's house if no other one is told."""
    who = "amy@" + name[0] if who is None else who
    if kind == "begin":
        after = leave = ()
    if kind == "seat" and about == "":
        about = who
    body = BODIES[kind] if body is None else body
    one = (name, kind, who, about, body, tuple(sorted(after)), tuple(sorted(leave)))
    look_at_deed(one)
    return one


def hall_of(*deeds):
    """A hall of these deeds, each name of which is there."""
    hall = {one[0]: one for one in deeds}
    assert len(hall) == len(deeds)
    assert all(name in hall for one in deeds for name in one[5] + one[6])
    return hall


def scene(began=AMY, rules=1, seats=(), people=(), wanted=None, door=None):
    """A hall and a state of it: who began, the seats of people, the ranks deed (none of None), the door."""
    house = "ash" if began is None else began.split("@")[1]
    first = (house, 0)
    hall = {first: deed(first, "begin", began or AMY, body=(rules, None))}
    state = {} if began is None else {BEGIN: first}
    rows = [("seat", person, body) for person, body in dict(seats).items()]
    if people or wanted is not None:
        rows.append(("ranks", "", (tuple(sorted(people)), tuple(sorted(wanted or ())))))
    if door is not None:
        rows.append(("door", "", door))
    for number, (kind, about, body) in enumerate(rows, 1):
        name = (house, number)
        hall[name] = deed(name, kind, began or AMY, about, body, [first], [first])
        state[(kind, about)] = name
    return hall, state


class Unchanged:
    """Sees to it that nothing that was handed in is changed behind a row of asks."""

    def __init__(self, test, *things):
        self.test, self.things, self.copies = test, things, copy.deepcopy(things)

    def __enter__(self):
        return self

    def __exit__(self, kind, value, trace):
        self.test.assertEqual(self.things, self.copies)
        for thing, kept in zip(self.things, self.copies):
            if isinstance(thing, dict):
                self.test.assertEqual(list(thing), list(kept))


def turned(thing):
    """A dict with its keys in another order."""
    return {key: thing[key] for key in reversed(list(thing))}


def reached(hall, names, part):
    """All that is reached from names, found in another way: by going on till nothing new is found."""
    found = set(names)
    while True:
        more = found | {other for name in found for other in hall[name][part]}
        if more == found:
            return sorted(found)
        found = more


def longest(hall, name, part):
    """How many steps the longest way has, by trying all ways."""
    return max([1 + longest(hall, other, part) for other in hall[name][part]], default=0)


def ladder(many):
    """A hall in which ways meet again and again: each deed after the two ahead of it, and by their leave."""
    names = [("ash", number) for number in range(many)]
    hall = {names[0]: deed(names[0], "begin")}
    for number in range(1, many):
        ahead = names[max(0, number - 2):number]
        hall[names[number]] = deed(names[number], "say", after=ahead, leave=ahead)
    return hall


def row_of(many):
    """A hall in which each deed stands behind the one ahead alone, far deeper than Python's calls may nest."""
    names = [("ash", number) for number in range(many)]
    hall = {names[0]: deed(names[0], "begin")}
    for ahead, name in zip(names, names[1:]):
        hall[name] = deed(name, "ranks", after=[ahead], leave=[ahead])
    return hall


def chance_body(chance, kind, names):
    """A body of a kind."""
    if kind == "begin":
        return (chance.choice((1, 2)), None)
    if kind == "seat":
        return chance.choice(("in", "in", "out", "called", "barred"))
    if kind == "ranks":
        ranks = [(person, chance.choice((0, 50, 60, 100))) for person in (BOB, CYD, DAN) if chance.random() < 0.6]
        words = [(word, chance.choice((0, 10, 50))) for word in ("call", "ranks", "say") if chance.random() < 0.3]
        first = chance.choice((100, 100, 100, 60, 10))
        return (tuple(sorted(ranks + [(AMY, first)])), tuple(words))
    if kind == "door":
        return chance.choice(("open", "asked"))
    return chance.choice(names) if kind == "strike" else BODIES[kind]


def chance_leave(chance, hall, kind, who, about, body):
    """Names of a leave: mostly one for each key that is due, as far as there is one, else any."""
    names = list(hall)
    if chance.random() < 0.1:
        return chance.sample(names, min(len(names), chance.randint(1, 4)))
    keys = {BEGIN, RANKS, seat(who)} | ({seat(about)} if kind == "seat" else set())
    if kind == "seat" and body == "in":
        keys.add(DOOR)
    fits = [[name for name in names if hall[name][1:4:2] == key] for key in sorted(keys)]
    # Late ones oftener than early ones: so chains grow long.
    return [chance.choice(few[-2:]) for few in fits if few]


def chance_deed(chance, hall, number):
    """A deed by chance that may stand in a hall."""
    names = list(hall)
    who = chance.choice((AMY, AMY, BOB, CYD, DAN))
    kind = chance.choice(("seat",) * 8 + ("ranks",) * 4 + ("door", "door", "say", "strike", "move"))
    # Rare, for it is given whatever stands ahead.
    kind = "begin" if chance.random() < 0.01 else kind
    about = chance.choice((who, who, AMY, BOB, CYD, DAN)) if kind == "seat" else ""
    body = chance_body(chance, kind, names)
    after = chance.sample(names, min(len(names), chance.randint(1, 3)))
    leave = chance_leave(chance, hall, kind, who, about, body)
    return deed((who.split("@")[1], number), kind, who, about, body, after, leave or after)


def chance_hall(seed, many):
    """A hall by chance, whose names tell nothing of what stands ahead of what; most of its deeds are given."""
    chance = random.Random(seed)
    hall = {FIRST: deed(FIRST, "begin", AMY)}
    for number in chance.sample(range(1, 999), many):
        for again in range(1 if chance.random() < 0.15 else 30):
            new = chance_deed(chance, hall, number)
            if not_given(hall, new) is None:
                break
        hall[new[0]] = new
    return hall


def chance_state(chance, hall):
    """A state of a hall by chance."""
    names = chance.sample(list(hall), chance.randint(0, min(8, len(hall))))
    return {hall[name][1:4:2]: name for name in names if hall[name][1] not in ("say", "strike")}

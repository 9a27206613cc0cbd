"""What differs between states [13], and the orders in which what differs is looked at [14], [15]."""

from branchedhall.chains import by_leave, chain_of, longest_ways
from branchedhall.deeds import ABOUT, AFTER, BODY, KIND, LEAVE, WHO
from branchedhall.errors import NoStates
from branchedhall.ranks import rank_in

MOST_STATES = 6
RANK_KINDS = ("ranks", "door", "move")
RANK_SEATS = ("out", "barred")


def look_at_states(thing):
    """Refuses with NoStates what is no list of one to six dicts."""
    if not isinstance(thing, list) or not 1 <= len(thing) <= MOST_STATES:
        raise NoStates(None)
    for number, state in enumerate(thing):
        if not isinstance(state, dict):
            raise NoStates(number)


def alike_in(states):
    """What is alike: the keys for which all states have the same name."""
    first = states[0]
    keys = sorted(first)
    for state in states[1:]:
        keys = [key for key in keys if state.get(key) == first[key]]
    return {key: first[key] for key in keys}


def not_in_each_chain(hall, states):
    """The names in the chain of the names of one of the states that aren't in that of each of them."""
    many = {}
    for state in states:
        for name in chain_of(hall, list(state.values())):
            many[name] = many.get(name, 0) + 1
    return [name for name in many if many[name] < len(states)]


def parted(hall, states):
    """What is alike in one to six states, and the names that differ."""
    look_at_states(states)
    alike = alike_in(states)
    # Alike states have alike chains, which may be long: they needn't be gone through.
    if all([len(state) == len(alike) for state in states]):
        return alike, []
    others = [state[key] for state in states for key in state if key not in alike]
    return alike, sorted(set(others + not_in_each_chain(hall, states)))


def is_of_rank(deed):
    """Whether a deed is one of rank."""
    if deed[KIND] == "seat":
        return deed[BODY] in RANK_SEATS and deed[ABOUT] != deed[WHO]
    return deed[KIND] in RANK_KINDS


def of_rank(hall, names):
    """The deeds of rank among some names, and those among them that stand in the chains of these."""
    heads = [name for name in names if is_of_rank(hall[name])]
    chain = {name: True for name in chain_of(hall, heads)}
    return sorted([name for name in names if name in chain])


def rank_by_leave(hall, name):
    """The rank of who did a deed, by what the deed names."""
    deed = hall[name]
    return rank_in(hall, by_leave(hall, deed), deed[WHO])


def named_by(hall, names):
    """For each of some names those among them in whose leave it stands."""
    named = {name: [] for name in names}
    for name in names:
        for other in hall[name][LEAVE]:
            named[other].append(name)
    return named


def by_leaves(hall, names):
    """The names in the order by leave: each behind all of them in its chain, then by rank, then by name."""
    turns = {name: (1, -rank_by_leave(hall, name), name) for name in names}
    chain = chain_of(hall, names)
    named = named_by(hall, chain)
    lacks = {name: len(hall[name][LEAVE]) for name in chain}
    free = [name for name in chain if lacks[name] == 0]
    order = []
    while free:
        # What isn't asked for stands in nobody's way: it goes ahead of all that is, and isn't told.
        chosen = min(free, key=lambda one: turns.get(one, (0, 0, one)))
        free.remove(chosen)
        if chosen in turns:
            order.append(chosen)
        for other in named[chosen]:
            lacks[other] -= 1
            if lacks[other] == 0:
                free.append(other)
    return order


def ranks_ahead(hall, name):
    """The ranks deed in a deed's leave, of several the last by name; None where there is none."""
    found = [other for other in hall[name][LEAVE] if hall[other][KIND] == "ranks"]
    return found[-1] if found else None


def line_of(hall, name):
    """The line of a ranks deed: it, the ranks deed in its leave, and so on; [] of None."""
    line = []
    while name is not None:
        line.append(name)
        name = ranks_ahead(hall, name)
    return line


def far_by(hall, places, name):
    """The far of a deed, by the places of the names on a line."""
    if hall[name][KIND] != "ranks":
        name = ranks_ahead(hall, name)
    while name is not None and name not in places:
        name = ranks_ahead(hall, name)
    return len(places) if name is None else places[name]


def places_on(line):
    """The places of the names on a line."""
    return {name: place for place, name in enumerate(line)}


def far_of(hall, line, name):
    """The far of a deed by a line."""
    return far_by(hall, places_on(line), name)


def along(hall, line, names):
    """The names in the order along a line: by far, the greatest first, then by depth, then by name."""
    places = places_on(line)
    depths = longest_ways(hall, names, AFTER)
    return sorted(names, key=lambda name: (-far_by(hall, places, name), depths[name], name))

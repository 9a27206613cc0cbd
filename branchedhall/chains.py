"""Chains of leave, pasts and depths [11], and chain papers [12].

Ways are gone without a function that calls itself: a hall may be deeper than Python lets calls nest.
"""

from branchedhall.deeds import AFTER, LEAVE, key_of
from branchedhall.leave import bar, leave_keys
from branchedhall.words import is_name


def by_leave(hall, deed):
    """The state by what a deed names."""
    state = {}
    for name in deed[LEAVE]:
        key = key_of(hall[name])
        if key is not None:
            state[key] = name
    return state


def not_given_by(hall, state, keys, deed):
    """The same as not_given, by the state by what the deed names, and the keys on which its leave hangs."""
    # Where one has no key, or two have one, the state has fewer keys than the leave has names.
    if len(state) < len(deed[LEAVE]):
        return "twice"
    # Each of its leave stands in the state: so the state gives others only where some key of it isn't asked for.
    for key in state:
        if key not in keys:
            return "other"
    return bar(hall, state, deed)


def not_given(hall, deed):
    """The first due rule by which a deed isn't given by what it names, or None."""
    return not_given_by(hall, by_leave(hall, deed), leave_keys(deed), deed)


def reached(hall, names, part):
    """Some names, those in that part of their deeds, and so on."""
    seen = set()
    waiting = list(names)
    while waiting:
        name = waiting.pop()
        if name not in seen:
            seen.add(name)
            waiting.extend(hall[name][part])
    return sorted(seen)


def chain_of(hall, names):
    """The chain of some names: all that is reached by leave."""
    return reached(hall, names, LEAVE)


def past_of(hall, names):
    """The past of some names: all that is reached by after."""
    return reached(hall, names, AFTER)


def longest_ways(hall, names, part):
    """How many steps the longest way has, of each name that is reached by that part of the deeds."""
    steps = {}
    waiting = list(names)
    while waiting:
        name = waiting[-1]
        further = hall[name][part]
        unknown = [other for other in further if other not in steps]
        if unknown:
            waiting.extend(unknown)
        else:
            waiting.pop()
            steps[name] = max([steps[other] + 1 for other in further], default=0)
    return steps


def depth_of(hall, name):
    """The depth of a deed: how many steps of after the longest way down to a begin has."""
    return longest_ways(hall, [name], AFTER)[name]


def lets_chain(hall, name, thing):
    """Whether a thing, of any kind, is a chain paper for a name."""
    if not isinstance(thing, list) or len(thing) == 0:
        return False
    ahead = {}
    for one in thing:
        # What is no name might not even be looked for in a dict.
        if not is_name(one) or one not in hall or one in ahead:
            return False
        deed = hall[one]
        if not all([other in ahead for other in deed[LEAVE]]) or not_given(hall, deed) is not None:
            return False
        ahead[one] = True
    return thing[-1] == name


def chain_paper(hall, name):
    """The chain paper of a name's chain, or None where some deed of it isn't given."""
    steps = longest_ways(hall, [name], LEAVE)
    if not all([not_given(hall, hall[one]) is None for one in steps]):
        return None
    return sorted(steps, key=lambda one: (steps[one], one))

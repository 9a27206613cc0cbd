"""What a web is asked [19], [20]: each answer is found once, and kept till anything is changed in what the web keeps.

So answers that are kept stand in many places, and are never changed: who tells one tells a copy of it.
"""

from branchedhall.chains import past_of
from branchedhall.deeds import KIND, NAME, key_of
from branchedhall.leave import bar, leave_keys
from branchedhall.lets import AHEAD
from branchedhall.orders import MOST_STATES


def with_key(state, key, name):
    """A state with a name for a key, or without the key where there is no name; the state itself where it is None."""
    changed = {other: state[other] for other in state if other != key}
    if key is not None and name is not None:
        changed[key] = name
    return changed


def is_soft(hall, now, ahead, deed):
    """Whether the state now bars a deed; its own standing there doesn't count."""
    # Nothing but these keys is looked at: so the state, which may have many, isn't copied for each deed.
    seen = {key: now[key] for key in leave_keys(deed) if key in now}
    key = key_of(deed)
    return bar(hall, with_key(seen, key, ahead.get(key)), deed) is not None


def find_names(kept):
    """All known names, sorted."""
    return sorted(kept.known)


def find_missing(kept):
    """The names that known deeds name, and that aren't known, sorted."""
    return sorted(kept.lost)


def find_ends(kept):
    """The names that are let in, and in no after of one that is let in, sorted."""
    return kept.lets.ends()


def find_made(kept):
    """What is made of the states behind the ends, of many ends the last ones, and its paper."""
    return kept.lets.made_of(answer(kept, "ends")[-MOST_STATES:])


def find_hall(kept):
    """The hall of those that are let in, sorted by their names."""
    deeds = kept.lets.deeds
    return {name: deeds[name] for name in sorted(deeds)}


def find_soft(kept):
    """The names that are let in, but have no leave now, sorted."""
    hall = answer(kept, "hall")
    rows = kept.lets.rows
    now = answer(kept, "made")[0]
    return [name for name in hall if name != kept.first[NAME] and is_soft(hall, now, rows[name][AHEAD], hall[name])]


def find_may_go(kept):
    """The names of says whose words may be let go, sorted."""
    deeds = kept.lets.deeds
    return [name for name in kept.lets.in_all_pasts() if deeds[name][KIND] == "say" and name not in kept.gone]


def find_ahead(kept, name):
    """The state ahead of a deed that is let in, sorted by its keys."""
    state = kept.lets.rows[name][AHEAD]
    return {key: state[key] for key in sorted(state)}


def find_behind(kept, name):
    """The state behind a deed that is let in."""
    return with_key(answer_of(kept, "ahead", name), key_of(kept.lets.deeds[name]), name)


def find_past(kept, name):
    """The past of a deed that is let in."""
    return past_of(kept.lets.deeds, [name])


FINDERS = {
    "names": find_names,
    "missing": find_missing,
    "ends": find_ends,
    "made": find_made,
    "hall": find_hall,
    "soft": find_soft,
    "may go": find_may_go,
}
FINDERS_OF_NAMES = {
    "ahead": find_ahead,
    "behind": find_behind,
    "past": find_past,
}


def answer(kept, question):
    """The answer to a question, not to be changed."""
    if question not in kept.found:
        finder = FINDERS[question]
        kept.found[question] = finder(kept)
    return kept.found[question]


def answer_of(kept, question, name):
    """The answer to a question about a name that is let in, not to be changed."""
    asked = (question, name)
    if asked not in kept.found:
        finder = FINDERS_OF_NAMES[question]
        kept.found[asked] = finder(kept, name)
    return kept.found[asked]

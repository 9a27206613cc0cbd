"""The state made of several, with its paper [16], and papers looked at [17]."""

from branchedhall.chains import by_leave
from branchedhall.deeds import is_one_of, is_pair, key_of
from branchedhall.errors import NoPaper
from branchedhall.leave import bar, leave_keys
from branchedhall.orders import along, by_leaves, line_of, of_rank, parted
from branchedhall.ranks import RANKS_KEY
from branchedhall.words import is_name


def seen_by(hall, state, deed):
    """What a deed is looked at by: the state that what it names makes, over which the state's own names stand."""
    seen = by_leave(hall, deed)
    for key in leave_keys(deed):
        if key in state:
            seen[key] = state[key]
    return seen


def let_stand(hall, state, names):
    """Looks at deeds one by one, and lets stand in the state those that have leave; told are rows of the paper."""
    rows = []
    for name in names:
        deed = hall[name]
        rule = bar(hall, seen_by(hall, state, deed), deed)
        key = key_of(deed)
        if rule is None and key is not None:
            state[key] = name
        rows.append((name, rule))
    return rows


def made(hall, states):
    """The state made of one to six states, and its paper: what differs, as it was looked at, and what bars it."""
    alike, differ = parted(hall, states)
    if not differ:
        return alike, []
    state = {key: alike[key] for key in alike}
    ruling = of_rank(hall, differ)
    others = sorted(set(differ) - set(ruling))
    paper = let_stand(hall, state, by_leaves(hall, ruling))
    # Asked but now: the deeds of rank may have put another ranks deed there.
    line = line_of(hall, state.get(RANKS_KEY))
    paper.extend(let_stand(hall, state, along(hall, line, others)))
    return {key: alike.get(key, state[key]) for key in sorted(state)}, paper


def is_row(thing, row):
    """Whether a thing is this row of a paper; no other thing is asked whether it equals one, for it might say so."""
    name, rule = row
    if not is_pair(thing) or not is_name(thing[0]) or thing[0] != name:
        return False
    return thing[1] is None if rule is None else is_one_of(thing[1], (rule,))


def is_paper(thing, rows):
    """Whether a thing is a list of just these rows."""
    if not isinstance(thing, list) or len(thing) != len(rows):
        return False
    return all([is_row(one, row) for one, row in zip(thing, rows)])


def lets_made(hall, states, thing):
    """Whether a thing, of any kind, is the paper of what is made of the states."""
    return is_paper(thing, made(hall, states)[1])


def state_by(hall, states, paper):
    """The state by a paper of what is made of the states; NoPaper of all else."""
    state, rows = made(hall, states)
    if not is_paper(paper, rows):
        raise NoPaper()
    return state

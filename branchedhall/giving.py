"""Givings: who gave a rank, who gave that one's rank, and so on, down to who began [21].

Of a person's rank there is one giving, or none: on a line only the last of those at its head that tell the rank can
have given it. So a thing is a giving where it is the one that is found.
"""

from branchedhall.chains import by_leave
from branchedhall.deeds import BODY, WHO
from branchedhall.orders import line_of
from branchedhall.ranks import BEGIN_KEY, FIRST_RANK, RANKS_KEY, people_by, rank_in, who_began
from branchedhall.words import is_name, is_person, is_rank


def telling(hall, line, person, rank):
    """Those at the head of a line of ranks deeds that tell a person this rank."""
    found = []
    for name in line:
        if people_by(hall[name][BODY]).get(person) != rank:
            break
        found.append(name)
    return found


def is_who_began(hall, here, own, person):
    """Whether a person began, by what is named here, and the begin is the own one."""
    return here.get(BEGIN_KEY) == own and who_began(hall, here) == person


def giving_of(hall, state, person):
    """The giving of a person's rank by a state, or None."""
    own = state.get(BEGIN_KEY)
    here = state
    rank = rank_in(hall, state, person)
    rows = []
    while rank > 0:
        line = line_of(hall, here.get(RANKS_KEY))
        heads = telling(hall, line, person, rank)
        if rank == FIRST_RANK and len(heads) == len(line) and is_who_began(hall, here, own, person):
            return [*rows, (own, person, rank)]
        if not heads:
            return None
        deed = hall[heads[-1]]
        here = by_leave(hall, deed)
        giver = deed[WHO]
        giving = rank_in(hall, here, giver)
        if rank_in(hall, here, person) == rank or giving < rank:
            return None
        rows.append((heads[-1], person, rank))
        person, rank = giver, giving
    return None


def is_giving_row(thing):
    """Whether a thing is a tuple (name, person, rank), so that it may be compared."""
    if not isinstance(thing, tuple) or len(thing) != 3:
        return False
    return is_name(thing[0]) and is_person(thing[1]) and is_rank(thing[2])


def lets_giving(hall, state, person, thing):
    """Whether a thing, of any kind, is a giving of a person's rank by a state."""
    if not isinstance(thing, list) or not all([is_giving_row(row) for row in thing]):
        return False
    return thing == giving_of(hall, state, person)

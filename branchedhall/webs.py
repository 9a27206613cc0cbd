"""Webs of deeds: how each deed stands and why [18], what is told of a web [19], and words let go [20]."""

from branchedhall.asked import answer, answer_of
from branchedhall.deeds import KIND, NAME, look_at_deed, with_body
from branchedhall.errors import Barred, Full, NoBegin, NoGoing, NoName, NoState, Twin
from branchedhall.kept import begun
from branchedhall.lets import copied
from branchedhall.words import is_name

MOST = 300


def knows_same_deed(kept, other, name):
    """Whether by a name that both know the same deed is kept, but for words that one of them let go."""
    deeds, others = kept.known[name], other.known[name]
    if len(deeds) > 1 or len(others) > 1:
        return len(deeds) == len(others)
    if name in kept.gone or name in other.gone:
        return with_body(deeds[0], "") == with_body(others[0], "")
    return deeds == others


def knows_same(kept, other):
    """Whether the same is known, but for words that one of them let go."""
    if kept.first != other.first or len(kept.known) != len(other.known):
        return False
    return all([name in other.known and knows_same_deed(kept, other, name) for name in kept.known])


class Handed:
    """What a web hands on to its twin: no web is made of it but there, and nobody else has one."""

    def __init__(self, kept):
        self.kept = kept


class Web:
    """The deeds that are known of one hall.

    All of it stands in what it keeps, which its twins keep, too, till one of them changes: who changes it takes a copy
    for itself.
    """

    def __init__(self, first):
        if isinstance(first, Handed):
            self.kept = first.kept
        else:
            look_at_deed(first)
            if first[KIND] != "begin":
                raise NoBegin()
            self.kept = begun(first)

    def own(self):
        """What it keeps, to be changed: no other web keeps it any more, and what was found of it is forgotten."""
        if self.kept.holders > 1:
            self.kept.holders -= 1
            self.kept = self.kept.twin()
        self.kept.found = {}
        return self.kept

    def put(self, deed):
        """Takes a deed up; told is how it stands."""
        look_at_deed(deed)
        return self.take(deed)

    def take(self, deed):
        """Takes up what is known to be a deed; told is how it stands."""
        name = deed[NAME]
        if name not in self.kept.known:
            self.look_for_room()
            self.own().put_new(deed)
        elif deed not in self.kept.known[name]:
            self.take_unlike(deed)
        return self.stand_of_known(name)

    def take_own(self, deed):
        """Takes up a deed whose name isn't known and that names none but such as are let in, if it is let in, too."""
        self.look_for_room()
        why, ahead = self.kept.look_at(deed)
        if why is not None:
            raise Barred(why[0], why[1])
        self.own().put_let(deed, ahead)

    def take_unlike(self, deed):
        """Takes up another deed by a known name: it brings words back, or makes the name a twin."""
        name = deed[NAME]
        deeds = self.kept.known[name]
        if name in self.kept.gone and with_body(deed, "") == deeds[0]:
            self.own().bring_back(deed)
        elif name == self.kept.first[NAME]:
            raise Twin(name)
        elif len(deeds) == 1:
            self.own().put_unlike(deed)

    def look_for_room(self):
        """Refuses a further name where there are too many."""
        if len(self.kept.known) >= MOST:
            raise Full()

    def look_up(self, name):
        """The deeds that are known by a name; NoName of what isn't known, of anything."""
        known = self.kept.known
        if not is_name(name) or name not in known:
            raise NoName(name)
        return known[name]

    def look_up_let(self, name):
        """Refuses what isn't known with NoName, and with NoState a known name that isn't let in."""
        self.look_up(name)
        if name not in self.kept.lets.deeds:
            raise NoState(name)

    def names(self):
        """All known names."""
        return list(answer(self.kept, "names"))

    def deed(self, name):
        """The deed by a known name; Twin where there are two."""
        deeds = self.look_up(name)
        if len(deeds) > 1:
            raise Twin(name)
        return deeds[0]

    def both(self, name):
        """The deeds that are known by a name, one or two, the one known first ahead."""
        return list(self.look_up(name))

    def all_deeds(self):
        """All deeds that are known, by names, of a twin both."""
        known = self.kept.known
        return [deed for name in answer(self.kept, "names") for deed in known[name]]

    def unknown_of(self, deeds):
        """Those of some deeds that aren't known, be it that their names are."""
        known = self.kept.known
        return [deed for deed in deeds if deed not in known.get(deed[NAME], ())]

    def stand(self, name):
        """How a name stands."""
        self.look_up(name)
        return self.stand_of_known(name)

    def stand_of_known(self, name):
        """How a name stands that is known."""
        whys = self.kept.whys
        if name not in whys:
            return "waits"
        return "let" if whys[name] is None else "barred"

    def why(self, name):
        """Where a name is barred, and by which rule; None of one that isn't barred."""
        self.look_up(name)
        return self.kept.whys.get(name)

    def ahead(self, name):
        """The state ahead of a deed that is let in."""
        self.look_up_let(name)
        return copied(answer_of(self.kept, "ahead", name))

    def behind(self, name):
        """The state behind a deed that is let in."""
        self.look_up_let(name)
        return copied(answer_of(self.kept, "behind", name))

    def past(self, name):
        """The past of a deed that is let in."""
        self.look_up_let(name)
        return list(answer_of(self.kept, "past", name))

    def missing(self):
        """The names that known deeds name, and that aren't known."""
        return list(answer(self.kept, "missing"))

    def ends(self):
        """The names that are let in, and in no after of one that is let in."""
        return list(answer(self.kept, "ends"))

    def now(self):
        """The state now: of more ends than states are made of the last ones are taken."""
        return copied(answer(self.kept, "made")[0])

    def paper(self):
        """The paper of the state now."""
        return list(answer(self.kept, "made")[1])

    def soft(self):
        """The names that are let in, but have no leave now."""
        return list(answer(self.kept, "soft"))

    def hall(self):
        """The hall of those that are let in, sorted by their names."""
        return copied(answer(self.kept, "hall"))

    def may_go(self):
        """The names of says whose words may be let go."""
        return list(answer(self.kept, "may go"))

    def let_go(self, names):
        """Lets go the words of some says; NoGoing, where one of them may not go, changes nothing."""
        if not isinstance(names, (list, tuple)):
            raise NoGoing(None)
        left = {name: True for name in answer(self.kept, "may go")}
        for name in names:
            if not is_name(name) or name not in left:
                raise NoGoing(name)
            del left[name]
        self.own().let_go(names)

    def twin(self):
        """Another web that knows the same, and has let go the same."""
        self.kept.holders += 1
        return Web(Handed(self.kept))

    def __len__(self):
        return len(self.kept.known)

    def __eq__(self, other):
        return isinstance(other, Web) and knows_same(self.kept, other.kept)

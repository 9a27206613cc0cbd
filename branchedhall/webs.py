"""Webs of deeds: how each deed stands and why [18], what is told of a web [19], and words let go [20]."""

from branchedhall.chains import not_given, past_of
from branchedhall.deeds import ABOUT, AFTER, BODY, KIND, LEAVE, NAME, WHO, key_of, look_at_deed, with_body
from branchedhall.errors import Barred, Full, NoBegin, NoGoing, NoName, NoState, Twin
from branchedhall.leave import bar, keys_for
from branchedhall.lets import Lets, copied
from branchedhall.orders import MOST_STATES
from branchedhall.words import is_name

MOST = 300
WHY_TWIN = ("twin", "")
WHY_AHEAD = ("ahead", "")


def named_in(deed):
    """All names in a deed's after or leave, twice what stands in both."""
    return deed[AFTER] + deed[LEAVE]


def with_key(state, key, name):
    """A state with a name for a key, or without the key where there is no name; the state itself where it is None."""
    changed = {other: state[other] for other in state if other != key}
    if key is not None and name is not None:
        changed[key] = name
    return changed


def is_soft(hall, now, ahead, deed):
    """Whether the state now bars a deed; its own standing there doesn't count."""
    # Nothing but these keys is looked at: so the state, which may have many, isn't copied for each deed.
    keys = keys_for(deed[KIND], deed[WHO], deed[ABOUT], deed[BODY])
    seen = {key: now[key] for key in keys if key in now}
    key = key_of(deed)
    return bar(hall, with_key(seen, key, ahead.get(key)), deed) is not None


def knows_same_deed(web, other, name):
    """Whether two webs that know a name have the same by it, but for words that one of them let go."""
    deeds, others = web.known[name], other.known[name]
    if len(deeds) > 1 or len(others) > 1:
        return len(deeds) == len(others)
    if name in web.gone or name in other.gone:
        return with_body(deeds[0], "") == with_body(others[0], "")
    return deeds == others


def knows_same(web, other):
    """Whether two webs know the same, but for words that one of them let go."""
    if web.first != other.first or web.names() != other.names():
        return False
    return all([knows_same_deed(web, other, name) for name in web.names()])


class Web:
    """The deeds that are known of one hall.

    known has the one or two deeds of each known name, gone the names whose words were let go, whys what bars each
    deed that waits for nothing (None of one that is let in), and lets those that are let in. namers has for each name
    those whose deeds name it, lacks of each known name how many it names that wait or aren't known, lost the missing
    names, greatest the greatest known number of each house: so that a deed that comes is looked at, and what hangs on
    it, but not all that is known.
    """

    def __init__(self, first):
        look_at_deed(first)
        if first[KIND] != "begin":
            raise NoBegin()
        self.first = first
        self.known = {}
        self.gone = {}
        self.whys = {}
        self.namers = {}
        self.lacks = {}
        self.lost = {}
        self.greatest = {}
        # Beside len: what is done at last, whatever came of a hearing, may ask for fields, but call nothing.
        self.many = 0
        self.lets = Lets()
        self.take_up(first)
        self.let_in(first, {})

    def put(self, deed):
        """Takes a deed up; told is how it stands."""
        look_at_deed(deed)
        name = deed[NAME]
        if name not in self.known:
            self.put_new(deed)
        elif name in self.gone and with_body(deed, "") == self.known[name][0]:
            self.bring_back(deed)
        elif deed not in self.known[name]:
            self.put_unlike(deed)
        return self.stand_of_known(name)

    def put_new(self, deed):
        """Takes up a deed whose name isn't known."""
        self.look_for_room()
        self.take_up(deed)
        if self.lacks[deed[NAME]] == 0:
            self.settle([deed[NAME]])

    def put_own(self, deed):
        """Takes up a deed whose name isn't known and that names none but such as are let in, if it is let in, too."""
        self.look_for_room()
        why, ahead = self.look_at(deed)
        if why is not None:
            raise Barred(why[0], why[1])
        self.take_up(deed)
        self.let_in(deed, ahead)
        self.settle(self.freed_by(deed[NAME]))

    def look_for_room(self):
        """Refuses a further name where there are too many."""
        if len(self.known) >= MOST:
            raise Full()

    def take_up(self, deed):
        """Knows a deed from now on, by what it names."""
        name = deed[NAME]
        named = named_in(deed)
        house, number = name
        self.known[name] = (deed,)
        self.many = len(self.known)
        self.greatest[house] = max(number, self.greatest.get(house, 0))
        if name in self.lost:
            del self.lost[name]
        self.miss(named)
        for other in named:
            self.namers.setdefault(other, []).append(name)
        self.lacks[name] = len([other for other in named if other not in self.whys])

    def miss(self, names):
        """Misses those of some names that aren't known."""
        for name in names:
            if name not in self.known:
                self.lost[name] = True

    def bring_back(self, deed):
        """Brings back words that were let go."""
        if deed[BODY] != "":
            name = deed[NAME]
            self.known[name] = (deed,) + self.known[name][1:]
            self.lets.change_words(deed)
            del self.gone[name]

    def put_unlike(self, deed):
        """Takes up another deed by a known name, which makes the name a twin, unless it is one already."""
        name = deed[NAME]
        if name == self.first[NAME]:
            raise Twin(name)
        if len(self.known[name]) == 1:
            self.known[name] = (self.known[name][0], deed)
            self.miss(named_in(deed))
            self.bar_twin(name)

    def bar_twin(self, name):
        """Bars a name that became a twin, and what hangs on it."""
        waited = name not in self.whys
        self.whys[name] = WHY_TWIN
        if waited:
            self.settle(self.freed_by(name))
        elif name in self.lets.deeds:
            self.take_out(name)

    def take_out(self, name):
        """Takes out a name that was let in, and bars all that hangs on it, but what waits or is a twin."""
        self.lets.take_out(name)
        hanging = [name]
        while hanging:
            one = hanging.pop()
            for other in self.namers.get(one, []):
                if other in self.whys and self.whys[other] != WHY_TWIN:
                    self.whys[other] = WHY_AHEAD
                    # What hangs on one that was barred is barred already.
                    if other in self.lets.deeds:
                        self.lets.take_out(other)
                        hanging.append(other)

    def settle(self, free):
        """Looks at names that wait for nothing any more, and at those that waited for these alone."""
        due = list(free)
        while due:
            name = due.pop()
            deed = self.known[name][0]
            why, ahead = self.look_at(deed)
            if why is None:
                self.let_in(deed, ahead)
            else:
                self.whys[name] = why
            due.extend(self.freed_by(name))

    def let_in(self, deed, ahead):
        """Lets a deed in, by the state ahead of it."""
        self.whys[deed[NAME]] = None
        self.lets.let_in(deed, ahead)

    def freed_by(self, name):
        """The names that wait for nothing any more now that this one waits no more."""
        free = []
        for other in self.namers.get(name, []):
            if other not in self.whys:
                self.lacks[other] -= 1
                if self.lacks[other] == 0:
                    free.append(other)
        return free

    def look_at(self, deed):
        """What bars a deed that is no twin and waits for nothing, and None; or None, and the state ahead of it."""
        why = self.why_named(deed)
        if why is not None:
            return why, None
        ahead = self.lets.state_of(deed[AFTER])
        rule = bar(self.lets.deeds, ahead, deed)
        return (None, ahead) if rule is None else (("here", rule), None)

    def why_named(self, deed):
        """The first due of what bars a deed, up to what the state ahead of it tells."""
        if any([self.whys[other] is not None for other in named_in(deed)]):
            return WHY_AHEAD
        # The web's own begin is never looked at, and another one has nothing of which a state were made.
        if deed[KIND] == "begin":
            return ("here", "begun")
        why = self.lets.why_past(deed)
        if why is not None:
            return why
        rule = not_given(self.lets.deeds, deed)
        return None if rule is None else ("leave", rule)

    def made_now(self):
        """What is made of the states behind the ends, of many ends the last ones, and its paper."""
        return self.lets.made_of(self.ends()[-MOST_STATES:])

    def look_up(self, name):
        """The deeds that are known by a name; NoName of what isn't known, of anything."""
        if not is_name(name) or name not in self.known:
            raise NoName(name)
        return self.known[name]

    def look_up_let(self, name):
        """The deed of a name that is let in; NoState of another one that is known."""
        deeds = self.look_up(name)
        if name not in self.lets.deeds:
            raise NoState(name)
        return deeds[0]

    def names(self):
        """All known names."""
        return sorted(self.known)

    def deed(self, name):
        """The deed by a known name; Twin where there are two."""
        deeds = self.look_up(name)
        if len(deeds) > 1:
            raise Twin(name)
        return deeds[0]

    def both(self, name):
        """The deeds that are known by a name, one or two, the one known first ahead."""
        return list(self.look_up(name))

    def all_deeds(self):
        """All deeds that are known, by names, of a twin both."""
        return [deed for name in self.names() for deed in self.known[name]]

    def knows(self, deed):
        """Whether a deed is known, not its name alone."""
        return deed in self.known.get(deed[NAME], ())

    def stand(self, name):
        """How a name stands."""
        self.look_up(name)
        return self.stand_of_known(name)

    def stand_of_known(self, name):
        """How a name stands that is known."""
        if name not in self.whys:
            return "waits"
        return "let" if self.whys[name] is None else "barred"

    def why(self, name):
        """Where a name is barred, and by which rule; None of one that isn't barred."""
        self.look_up(name)
        return self.whys.get(name)

    def ahead(self, name):
        """The state ahead of a deed that is let in."""
        self.look_up_let(name)
        state = self.lets.aheads[name]
        return {key: state[key] for key in sorted(state)}

    def behind(self, name):
        """The state behind a deed that is let in."""
        deed = self.look_up_let(name)
        return with_key(self.ahead(name), key_of(deed), name)

    def past(self, name):
        """The past of a deed that is let in."""
        self.look_up_let(name)
        return past_of(self.lets.deeds, [name])

    def missing(self):
        """The names that known deeds name, and that aren't known."""
        return sorted(self.lost)

    def ends(self):
        """The names that are let in, and in no after of one that is let in."""
        return self.lets.ends()

    def now(self):
        """The state now."""
        return self.made_now()[0]

    def paper(self):
        """The paper of the state now."""
        return self.made_now()[1]

    def soft(self):
        """The names that are let in, but have no leave now."""
        hall = self.hall()
        aheads = self.lets.aheads
        now = self.now()
        return [name for name in hall if name != self.first[NAME] and is_soft(hall, now, aheads[name], hall[name])]

    def hall(self):
        """The hall of those that are let in, sorted by their names."""
        deeds = self.lets.deeds
        return {name: deeds[name] for name in sorted(deeds)}

    def may_go(self):
        """The names of says whose words may be let go."""
        deeds = self.lets.deeds
        return [name for name in self.lets.in_all_pasts() if deeds[name][KIND] == "say" and name not in self.gone]

    def let_go(self, names):
        """Lets go the words of some says; NoGoing, where one of them may not go, changes nothing."""
        if not isinstance(names, (list, tuple)):
            raise NoGoing(None)
        left = {name: True for name in self.may_go()}
        for name in names:
            if not is_name(name) or name not in left:
                raise NoGoing(name)
            del left[name]
        for name in names:
            bare = with_body(self.known[name][0], "")
            self.known[name] = (bare,)
            self.lets.change_words(bare)
            self.gone[name] = True

    def twin(self):
        """Another web that knows the same, and has let go the same."""
        web = Web(self.first)
        web.known = copied(self.known)
        web.gone = copied(self.gone)
        web.whys = copied(self.whys)
        web.namers = {name: list(self.namers[name]) for name in self.namers}
        web.lacks = copied(self.lacks)
        web.lost = copied(self.lost)
        web.greatest = copied(self.greatest)
        web.many = self.many
        web.lets = self.lets.twin()
        return web

    def __len__(self):
        return len(self.known)

    def __eq__(self, other):
        return isinstance(other, Web) and knows_same(self, other)

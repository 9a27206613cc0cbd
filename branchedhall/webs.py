"""Webs of deeds: how each deed stands and why [18], what is told of a web [19], and words let go [20]."""

from branchedhall.chains import not_given, past_of
from branchedhall.deeds import AFTER, BODY, KIND, LEAVE, NAME, key_of, look_at_deed, with_body
from branchedhall.errors import Full, NoBegin, NoGoing, NoName, NoState, Twin
from branchedhall.leave import bar
from branchedhall.made import made
from branchedhall.orders import MOST_STATES
from branchedhall.words import is_name

MOST = 300


def named_in(deed):
    """All names in a deed's after or leave."""
    return deed[AFTER] + deed[LEAVE]


def with_key(state, key, name):
    """A state with a name for a key, or without the key where there is no name; the state itself where it is None."""
    changed = {other: state[other] for other in state if other != key}
    if key is not None and name is not None:
        changed[key] = name
    return changed


def why_past(hall, deed):
    """Bars a deed that names, or strikes, what isn't in the past of its after."""
    past = past_of(hall, deed[AFTER])
    if not all([name in past for name in deed[LEAVE]]):
        return ("past", "leave")
    if deed[KIND] == "strike" and deed[BODY] not in past:
        return ("past", "strike")
    return None


def in_all_pasts(hall, ends):
    """The names that stand in the past of each of the ends."""
    many = {}
    for end in ends:
        for name in past_of(hall, [end]):
            many[name] = many.get(name, 0) + 1
    return [name for name in many if many[name] == len(ends)]


def knows_same_deed(web, other, name):
    """Whether two webs that know a name have the same by it, but for words that one of them let go."""
    deeds, others = web.known[name], other.known[name]
    if len(deeds) > 1 or len(others) > 1:
        return len(deeds) == len(others)
    if name in web.gone or name in other.gone:
        return with_body(deeds[0], "") == with_body(others[0], "")
    return deeds == others


def knows_same(web, other):
    """Whether two webs know the same, but for words that one of them let go."""
    if web.first != other.first or web.names() != other.names():
        return False
    return all([knows_same_deed(web, other, name) for name in web.names()])


class Web:
    """The deeds that are known of one hall.

    known has the one or two deeds of each known name, gone the names whose words were let go, whys what bars each
    deed that waits for nothing (None of one that is let in), aheads the states ahead of those that are let in.
    """

    def __init__(self, first):
        look_at_deed(first)
        if first[KIND] != "begin":
            raise NoBegin()
        name = first[NAME]
        self.first = first
        self.known = {name: (first,)}
        self.gone = {}
        self.whys = {name: None}
        self.aheads = {name: {}}
        # Beside len: what is done at last, whatever came of a hearing, may ask for fields, but call nothing.
        self.many = 1

    def put(self, deed):
        """Takes a deed up; told is how it stands."""
        look_at_deed(deed)
        name = deed[NAME]
        if name not in self.known:
            self.put_new(deed)
        elif name in self.gone and with_body(deed, "") == self.known[name][0]:
            self.bring_back(deed)
        elif deed not in self.known[name]:
            self.put_unlike(deed)
        return self.stand(name)

    def put_new(self, deed):
        """Takes up a deed whose name isn't known."""
        if len(self.known) >= MOST:
            raise Full()
        self.known[deed[NAME]] = (deed,)
        self.many = len(self.known)
        self.settle()

    def bring_back(self, deed):
        """Brings back words that were let go."""
        if deed[BODY] != "":
            name = deed[NAME]
            self.known[name] = (deed,) + self.known[name][1:]
            del self.gone[name]

    def put_unlike(self, deed):
        """Takes up another deed by a known name, which makes the name a twin, unless it is one already."""
        name = deed[NAME]
        if name == self.first[NAME]:
            raise Twin(name)
        if len(self.known[name]) == 1:
            self.known[name] = (self.known[name][0], deed)
            self.unsettle(name)
            self.settle()

    def unsettle(self, name):
        """Takes back how a name stands, and all that hangs on it."""
        hanging = [name]
        while hanging:
            one = hanging.pop()
            if one in self.aheads:
                del self.aheads[one]
            if one in self.whys:
                del self.whys[one]
            hanging.extend([other for other in self.whys if one in named_in(self.known[other][0])])

    def settle(self):
        """Looks at all deeds that wait for nothing any more, as long as there are such."""
        due = self.due()
        while due:
            for name in due:
                self.look_at(name)
            due = self.due()

    def due(self):
        """The names that weren't looked at, and wait for nothing."""
        return [name for name in self.known if name not in self.whys and not self.has_to_wait(name)]

    def has_to_wait(self, name):
        """Whether a name that is no twin names one that isn't known or waits."""
        deeds = self.known[name]
        return len(deeds) == 1 and not all([other in self.whys for other in named_in(deeds[0])])

    def look_at(self, name):
        """Finds out how a name stands that waits for nothing."""
        why = self.why_named(name)
        if why is None:
            deed = self.known[name][0]
            ahead = self.made_of(deed[AFTER])[0]
            rule = bar(self.hall(), ahead, deed)
            if rule is None:
                self.aheads[name] = ahead
            else:
                why = ("here", rule)
        self.whys[name] = why

    def why_named(self, name):
        """The first due of what bars a name, up to what the state ahead of its deed tells."""
        deeds = self.known[name]
        if len(deeds) > 1:
            return ("twin", "")
        deed = deeds[0]
        if any([self.whys[other] is not None for other in named_in(deed)]):
            return ("ahead", "")
        # The web's own begin is never looked at, and another one has nothing of which a state were made.
        if deed[KIND] == "begin":
            return ("here", "begun")
        hall = self.hall()
        why = why_past(hall, deed)
        if why is not None:
            return why
        rule = not_given(hall, deed)
        return None if rule is None else ("leave", rule)

    def made_of(self, names):
        """What is made of the states behind some names that are let in, and its paper."""
        return made(self.hall(), [self.behind(name) for name in names])

    def made_now(self):
        """What is made of the states behind the ends, of many ends the last ones, and its paper."""
        return self.made_of(self.ends()[-MOST_STATES:])

    def look_up(self, name):
        """The deeds that are known by a name; NoName of what isn't known, of anything."""
        if not is_name(name) or name not in self.known:
            raise NoName(name)
        return self.known[name]

    def look_up_let(self, name):
        """The deed of a name that is let in; NoState of another one that is known."""
        deeds = self.look_up(name)
        if name not in self.aheads:
            raise NoState(name)
        return deeds[0]

    def names(self):
        """All known names."""
        return sorted(self.known)

    def deed(self, name):
        """The deed by a known name; Twin where there are two."""
        deeds = self.look_up(name)
        if len(deeds) > 1:
            raise Twin(name)
        return deeds[0]

    def both(self, name):
        """The deeds that are known by a name, one or two, the one known first ahead."""
        return list(self.look_up(name))

    def stand(self, name):
        """How a name stands."""
        self.look_up(name)
        if name not in self.whys:
            return "waits"
        return "let" if self.whys[name] is None else "barred"

    def why(self, name):
        """Where a name is barred, and by which rule; None of one that isn't barred."""
        self.look_up(name)
        return self.whys.get(name)

    def ahead(self, name):
        """The state ahead of a deed that is let in."""
        self.look_up_let(name)
        state = self.aheads[name]
        return {key: state[key] for key in state}

    def behind(self, name):
        """The state behind a deed that is let in."""
        deed = self.look_up_let(name)
        return with_key(self.aheads[name], key_of(deed), name)

    def past(self, name):
        """The past of a deed that is let in."""
        self.look_up_let(name)
        return past_of(self.hall(), [name])

    def missing(self):
        """The names that known deeds name, and that aren't known."""
        named = [name for deeds in self.known.values() for deed in deeds for name in named_in(deed)]
        return sorted({name for name in named if name not in self.known})

    def ends(self):
        """The names that are let in, and in no after of one that is let in."""
        hall = self.hall()
        followed = {name: True for deed in hall.values() for name in deed[AFTER]}
        return [name for name in hall if name not in followed]

    def now(self):
        """The state now."""
        return self.made_now()[0]

    def paper(self):
        """The paper of the state now."""
        return self.made_now()[1]

    def soft(self):
        """The names that are let in, but have no leave now."""
        hall = self.hall()
        now = self.now()
        return [name for name in hall if name != self.first[NAME] and self.is_soft(hall, now, name)]

    def is_soft(self, hall, now, name):
        """Whether the state now bars a deed; its own standing there doesn't count."""
        key = key_of(hall[name])
        return bar(hall, with_key(now, key, self.aheads[name].get(key)), hall[name]) is not None

    def hall(self):
        """The hall of those that are let in, sorted by their names."""
        return {name: self.known[name][0] for name in sorted(self.aheads)}

    def may_go(self):
        """The names of says whose words may be let go."""
        hall = self.hall()
        ends = self.ends()
        told = [name for name in in_all_pasts(hall, ends) if name not in ends and name not in self.gone]
        return sorted([name for name in told if hall[name][KIND] == "say"])

    def let_go(self, names):
        """Lets go the words of some says; NoGoing, where one of them may not go, changes nothing."""
        if not isinstance(names, (list, tuple)):
            raise NoGoing(None)
        left = {name: True for name in self.may_go()}
        for name in names:
            if not is_name(name) or name not in left:
                raise NoGoing(name)
            del left[name]
        for name in names:
            self.known[name] = (with_body(self.known[name][0], ""),)
            self.gone[name] = True

    def twin(self):
        """Another web that knows the same, and has let go the same."""
        web = Web(self.first)
        web.known = {name: self.known[name] for name in self.known}
        web.gone = {name: True for name in self.gone}
        web.whys = {name: self.whys[name] for name in self.whys}
        # The states themselves are never changed, and told as copies alone.
        web.aheads = {name: self.aheads[name] for name in self.aheads}
        web.many = self.many
        return web

    def __len__(self):
        return len(self.known)

    def __eq__(self, other):
        return isinstance(other, Web) and knows_same(self, other)

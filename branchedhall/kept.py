"""What a web keeps of the deeds that it knows, and how that is changed [18], [20].

It is looked at as deeds come: a deed by what it names, and what hangs on it, but not all that is known.
"""

from branchedhall.deeds import AFTER, BODY, KIND, LEAVE, NAME, with_body
from branchedhall.lets import Lets, copied

WHY_TWIN = ("twin", "")
WHY_AHEAD = ("ahead", "")


def named_in(deed):
    """All names in a deed's after or leave, twice what stands in both."""
    return deed[AFTER] + deed[LEAVE]


class Kept:
    """The deeds that are known of one hall, by its begin, the first, and all that is kept of them.

    known has the one or two deeds of each known name, gone the names whose words were let go, whys what bars each
    deed that waits for nothing (None of one that is let in), and lets those that are let in. namers has for each name
    those that are let in behind it, and those that wait or are barred whose deeds name it; lacks of each name that
    waited how many it names that wait or aren't known; lost the missing names, greatest the greatest known number of
    each house, many how many names are known.

    holders is how many webs hold it: while these are several none of them changes it. found has the answers that were
    found as it is now.
    """

    def __init__(self, first):
        self.first = first
        self.lets = Lets()
        self.holders = 1
        self.found = {}
        # Beside known: what is done at last, whatever came of a hearing, may ask for fields, but call nothing.
        self.many = 0
        self.known = {}
        self.gone = {}
        self.whys = {}
        self.namers = {}
        self.lacks = {}
        self.lost = {}
        self.greatest = {}

    def twin(self):
        """Another one of the same, for one holder; nothing that was found is handed on, for it is to be changed."""
        other = Kept(self.first)
        other.lets = self.lets.twin()
        other.many = self.many
        other.known = copied(self.known)
        other.gone = copied(self.gone)
        other.whys = copied(self.whys)
        other.namers = {name: list(self.namers[name]) for name in self.namers}
        other.lacks = copied(self.lacks)
        other.lost = copied(self.lost)
        other.greatest = copied(self.greatest)
        return other

    def take_up(self, deed):
        """Knows a deed from now on."""
        name = deed[NAME]
        house, number = name
        self.known[name] = (deed,)
        self.many = len(self.known)
        if number >= self.greatest.get(house, 0):
            self.greatest[house] = number
        if name in self.lost:
            del self.lost[name]

    def keep_namer(self, name, names):
        """Keeps that some names are named by a name."""
        for other in names:
            self.namers.setdefault(other, []).append(name)

    def miss(self, names):
        """Misses those of some names that aren't known."""
        for name in names:
            if name not in self.known:
                self.lost[name] = True

    def let_in(self, deed, ahead):
        """Lets a deed in, by the state ahead of it."""
        name = deed[NAME]
        self.whys[name] = None
        self.lets.let_in(deed, ahead)
        # What is in its leave is in its past: what is taken out by that is taken out by its after, too.
        self.keep_namer(name, deed[AFTER])

    def keep_out(self, deed, why):
        """Bars a deed that is no twin."""
        name = deed[NAME]
        self.whys[name] = why
        # One that waited has been named there already.
        if name not in self.lacks:
            self.keep_namer(name, named_in(deed))

    def put_new(self, deed):
        """Takes up a deed whose name isn't known."""
        name = deed[NAME]
        named = named_in(deed)
        self.take_up(deed)
        waiting = [other for other in named if other not in self.whys]
        if waiting:
            self.lacks[name] = len(waiting)
            self.miss(waiting)
            self.keep_namer(name, named)
        else:
            self.decide(deed)
            if name in self.namers:
                self.settle(name)

    def put_let(self, deed, ahead):
        """Takes up a deed whose name isn't known and that is let in, by the state ahead of it."""
        self.take_up(deed)
        self.let_in(deed, ahead)
        if deed[NAME] in self.namers:
            self.settle(deed[NAME])

    def put_unlike(self, deed):
        """Takes up a second deed by a known name, which makes the name a twin."""
        name = deed[NAME]
        self.known[name] = (self.known[name][0], deed)
        self.miss(named_in(deed))
        waited = name not in self.whys
        self.whys[name] = WHY_TWIN
        if waited:
            self.settle(name)
        elif name in self.lets.deeds:
            self.take_out(name)

    def put_words(self, name, words):
        """Puts words in the stead of those of the first deed by a known name."""
        deed = with_body(self.known[name][0], words)
        self.known[name] = (deed,) + self.known[name][1:]
        self.lets.change_words(deed)

    def let_go(self, names):
        """Lets go the words of some names."""
        for name in names:
            self.put_words(name, "")
            self.gone[name] = True

    def bring_back(self, deed):
        """Brings back words that were let go."""
        self.put_words(deed[NAME], deed[BODY])
        del self.gone[deed[NAME]]

    def take_out(self, name):
        """Takes out a name that was let in, and bars all that hangs on it, but what waits or is a twin."""
        self.lets.take_out(name)
        hanging = [name]
        while hanging:
            one = hanging.pop()
            for other in self.namers.get(one, ()):
                if other in self.whys and self.whys[other] != WHY_TWIN:
                    self.whys[other] = WHY_AHEAD
                    # What hangs on one that was barred is barred already.
                    if other in self.lets.deeds:
                        self.lets.take_out(other)
                        hanging.append(other)

    def decide(self, deed):
        """Lets in, or bars, a deed that is no twin and waits for nothing."""
        why, ahead = self.look_at(deed)
        if why is None:
            self.let_in(deed, ahead)
        else:
            self.keep_out(deed, why)

    def settle(self, name):
        """Decides on those that waited for a name alone, which waits no more, and on those that waited for these."""
        due = self.freed_by(name)
        while due:
            one = due.pop()
            self.decide(self.known[one][0])
            due.extend(self.freed_by(one))

    def freed_by(self, name):
        """The names that wait for nothing any more now that this one waits no more."""
        free = []
        for other in self.namers.get(name, ()):
            if other not in self.whys:
                self.lacks[other] -= 1
                if self.lacks[other] == 0:
                    free.append(other)
        return free

    def look_at(self, deed):
        """What bars a deed that is no twin and waits for nothing, and None; or None, and the state ahead of it."""
        for name in named_in(deed):
            if self.whys[name] is not None:
                return WHY_AHEAD, None
        # The web's own begin is never looked at, and another one has nothing of which a state were made.
        if deed[KIND] == "begin":
            return ("here", "begun"), None
        return self.lets.look_at(deed)


def begun(first):
    """What a web keeps at first: its begin."""
    kept = Kept(first)
    kept.take_up(first)
    kept.let_in(first, {})
    return kept

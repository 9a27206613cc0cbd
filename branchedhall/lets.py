"""The deeds of a web that are let in: their states, their pasts and the ends, kept as deeds come and go.

So a further deed is looked at by what it names alone, however many are let in: nothing is found anew from all of them.
"""

from branchedhall.chains import not_given_by
from branchedhall.deeds import AFTER, BODY, KIND, LEAVE, NAME, key_of
from branchedhall.leave import bar, leave_keys
from branchedhall.made import made

# The places of what is kept of each name that is let in: the key of its deed, the states ahead of it and behind it, a
# number with one bit of its own, and the bits of all in its past.
KEY = 0
AHEAD = 1
BEHIND = 2
BIT = 3
PAST = 4


def copied(rows):
    """A copy of a dict."""
    return {**rows}


class Lets:
    """The hall of those that are let in, as deeds, with all that is kept of them.

    rows has for each of them what is kept of it, by places, mades the states made of several of those behind them:
    states are never changed, so that one may stand in many places. Pasts are numbers with a bit for each name, so that
    they are put together and looked into without going through them; bits is how many were given. followers has how
    many deeds stand behind each one, tips those behind which none does.
    """

    def __init__(self):
        self.deeds = {}
        self.rows = {}
        self.mades = {}
        self.bits = 0
        self.followers = {}
        self.tips = {}

    def twin(self):
        """Another one of the same."""
        other = Lets()
        other.deeds = copied(self.deeds)
        other.rows = copied(self.rows)
        other.mades = copied(self.mades)
        other.bits = self.bits
        other.followers = copied(self.followers)
        other.tips = copied(self.tips)
        return other

    def let_in(self, deed, ahead):
        """Lets a deed in, by the state ahead of it."""
        name = deed[NAME]
        key = key_of(deed)
        bit = 1 << self.bits
        # A bit that was given to one that is taken out isn't given again.
        self.bits += 1
        behind = ahead if key is None else {**ahead, key: name}
        self.deeds[name] = deed
        self.rows[name] = (key, ahead, behind, bit, self.past_of_all(deed[AFTER]) | bit)
        self.followers[name] = 0
        self.tips[name] = True
        for other in deed[AFTER]:
            self.followers[other] += 1
            if other in self.tips:
                del self.tips[other]

    def take_out(self, name):
        """Takes a deed out; what hangs on it has to be taken out, too."""
        after = self.deeds[name][AFTER]
        del self.deeds[name], self.rows[name]
        if name in self.tips:
            del self.tips[name]
        for other in after:
            self.followers[other] -= 1
            if self.followers[other] == 0 and other in self.deeds:
                self.tips[other] = True

    def change_words(self, deed):
        """Puts a deed in the stead of the one by its name, if that is let in; they are unlike in words alone."""
        if deed[NAME] in self.deeds:
            self.deeds[deed[NAME]] = deed

    def past_of_all(self, names):
        """The bits of all in the past of some names."""
        past = 0
        for name in names:
            past |= self.rows[name][PAST]
        return past

    def why_past(self, deed):
        """Bars a deed that names, or strikes, what isn't in the past of its after."""
        past = self.past_of_all(deed[AFTER])
        for name in deed[LEAVE]:
            if not past & self.rows[name][BIT]:
                return ("past", "leave")
        if deed[KIND] == "strike":
            struck = deed[BODY]
            if struck not in self.rows or not past & self.rows[struck][BIT]:
                return ("past", "strike")
        return None

    def look_at(self, deed):
        """What bars a deed that names such alone, and None; or None, and the state ahead of it."""
        why = self.why_past(deed)
        if why is not None:
            return why, None
        keys = leave_keys(deed)
        given = self.by_leave(deed)
        rule = not_given_by(self.deeds, given, keys, deed)
        if rule is not None:
            return ("leave", rule), None
        ahead = self.state_of(deed[AFTER])
        here = {key: ahead[key] for key in keys if key in ahead}
        # Nothing else is looked at; and by what gives it leave it isn't barred.
        rule = None if here == given else bar(self.deeds, here, deed)
        return (None, ahead) if rule is None else (("here", rule), None)

    def by_leave(self, deed):
        """The state by what a deed names, whose keys are kept."""
        state = {}
        for name in deed[LEAVE]:
            key = self.rows[name][KEY]
            if key is not None:
                state[key] = name
        return state

    def made_of(self, names):
        """What is made of the states behind some names, and its paper."""
        return made(self.deeds, [self.rows[name][BEHIND] for name in names])

    def state_of(self, names):
        """The state made of those behind a tuple of names, not to be changed; of one it is that one itself."""
        if len(names) == 1:
            return self.rows[names[0]][BEHIND]
        # It hangs on their pasts alone, and what is taken out never comes back: so what was made once stays as it is.
        if names not in self.mades:
            self.mades[names] = self.made_of(names)[0]
        return self.mades[names]

    def ends(self):
        """The ends, sorted."""
        return sorted(self.tips)

    def in_all_pasts(self):
        """The names that stand in the past of each end without being one, sorted."""
        past = self.past_of_all(self.tips)
        for end in self.tips:
            past &= self.rows[end][PAST]
        return [name for name in sorted(self.rows) if past & self.rows[name][BIT] and name not in self.tips]

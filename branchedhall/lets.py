"""The deeds of a web that are let in: their states, their pasts and the ends, kept as deeds come and go.

So a further deed is looked at by what it names alone, however many are let in: nothing is found anew from all of them.
"""

from branchedhall.deeds import AFTER, BODY, KIND, LEAVE, NAME, key_of
from branchedhall.made import made


def copied(rows):
    """A copy of a dict."""
    return {**rows}


class Lets:
    """The hall of those that are let in, as deeds, with all that is kept of them.

    aheads and behinds have the states ahead of and behind each of them, mades those made of several of the latter:
    they are never changed, so that one may stand in many places. bits has for each name a number with one bit of its
    own, pasts the bits of all in its past, so that pasts are put together and looked into without going through them.
    followers has how many deeds stand behind each one, tips those behind which none does.
    """

    def __init__(self):
        self.deeds = {}
        self.aheads = {}
        self.behinds = {}
        self.mades = {}
        self.bits = {}
        self.pasts = {}
        self.followers = {}
        self.tips = {}

    def let_in(self, deed, ahead):
        """Lets a deed in, by the state ahead of it."""
        name = deed[NAME]
        key = key_of(deed)
        self.deeds[name] = deed
        self.aheads[name] = ahead
        self.behinds[name] = ahead if key is None else {**ahead, key: name}
        # The bits of those taken out stay: a bit means one name for good.
        self.bits[name] = 1 << len(self.bits)
        self.pasts[name] = self.past_of_all(deed[AFTER]) | self.bits[name]
        self.followers[name] = 0
        self.tips[name] = True
        for other in deed[AFTER]:
            self.followers[other] += 1
            if other in self.tips:
                del self.tips[other]

    def take_out(self, name):
        """Takes a deed out; what hangs on it has to be taken out, too."""
        after = self.deeds[name][AFTER]
        del self.deeds[name], self.aheads[name], self.behinds[name], self.pasts[name]
        if name in self.tips:
            del self.tips[name]
        for other in after:
            self.followers[other] -= 1
            if self.followers[other] == 0 and other in self.deeds:
                self.tips[other] = True

    def change_words(self, deed):
        """Puts a deed in the stead of the one by its name, if that is let in; they are unlike in words alone."""
        if deed[NAME] in self.deeds:
            self.deeds[deed[NAME]] = deed

    def past_of_all(self, names):
        """The bits of all in the past of some names."""
        past = 0
        for name in names:
            past |= self.pasts[name]
        return past

    def why_past(self, deed):
        """Bars a deed that names, or strikes, what isn't in the past of its after."""
        past = self.past_of_all(deed[AFTER])
        if not all([past & self.bits[name] for name in deed[LEAVE]]):
            return ("past", "leave")
        if deed[KIND] == "strike" and not past & self.bits.get(deed[BODY], 0):
            return ("past", "strike")
        return None

    def made_of(self, names):
        """What is made of the states behind some names, and its paper."""
        return made(self.deeds, [self.behinds[name] for name in names])

    def state_of(self, names):
        """The state made of those behind a tuple of names, not to be changed; of one it is that one itself."""
        if len(names) == 1:
            return self.behinds[names[0]]
        # It hangs on their pasts alone, and what is taken out never comes back: so what was made once stays as it is.
        if names not in self.mades:
            self.mades[names] = self.made_of(names)[0]
        return self.mades[names]

    def ends(self):
        """The ends, sorted."""
        return sorted(self.tips)

    def in_all_pasts(self):
        """The names that stand in the past of each end without being one, sorted."""
        past = self.past_of_all(self.tips)
        for end in self.tips:
            past &= self.pasts[end]
        return [name for name in sorted(self.deeds) if past & self.bits[name] and name not in self.tips]

    def twin(self):
        """Another one of the same."""
        other = Lets()
        other.deeds = copied(self.deeds)
        other.aheads = copied(self.aheads)
        other.behinds = copied(self.behinds)
        other.mades = copied(self.mades)
        other.bits = copied(self.bits)
        other.pasts = copied(self.pasts)
        other.followers = copied(self.followers)
        other.tips = copied(self.tips)
        return other

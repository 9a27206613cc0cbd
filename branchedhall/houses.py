"""Houses: each keeps a web of its own, writes the deeds of its people, and hears those of others [22]."""

from branchedhall.asked import answer
from branchedhall.deeds import MOST_NAMES, is_one_of, look_at_deed
from branchedhall.errors import Busy, Full, NoDeed, NoHall, NoHouse, Twin
from branchedhall.leave import leave_for
from branchedhall.webs import Web
from branchedhall.words import GREATEST_NUMBER, is_name, is_word


def next_number(web, house):
    """The number of the next deed that a house writes into a web."""
    kept = web.kept
    number = kept.greatest.get(house, -1) + 1
    if number <= GREATEST_NUMBER:
        return number
    return min([free for free in range(len(web) + 1) if (house, free) not in kept.known])


def written(web, house, person, kind, about, body):
    """The deed that a house writes into a web; NoDeed where it were none."""
    name = (house, next_number(web, house))
    after = () if is_one_of(kind, ("begin",)) else tuple(answer(web.kept, "ends")[-MOST_NAMES:])
    # What gives leave can be asked for a deed alone: so its after stands there first, which is of the same form.
    look_at_deed((name, kind, person, about, body, after, after))
    state = web.kept.lets.state_of(after) if after else {}
    return (name, kind, person, about, body, after, leave_for(state, kind, person, about, body))


def heard(web, thing):
    """How a thing, of any kind, stands that is put into a web, or a text for what refuses it."""
    try:
        look_at_deed(thing)
    except NoDeed:
        return "none"
    return heard_deed(web, thing)


def heard_deed(web, deed):
    """The same of what is known to be a deed."""
    try:
        return web.take(deed)
    except Twin:
        return "twin"
    except Full:
        return "full"


class House:
    """A house, with the web that it holds, None as long as it has none, and the rows of its log."""

    def __init__(self, name):
        if not is_word(name):
            raise NoHouse(name)
        self.house = name
        self.held = None
        self.rows = []

    def begin(self, person, *, rules=1):
        """Begins a hall; told is the begin."""
        first = ((self.house, 0), "begin", person, "", (rules, None), (), ())
        self.told(first)
        return first

    def told(self, first):
        """Takes up the hall of a begin."""
        if self.held is not None:
            raise Busy()
        self.held = Web(first)

    def share(self, web):
        """Takes up, where it has none, the hall of another house, as far as that one's web knows it."""
        self.held = web.twin()

    def own_web(self):
        """The house's own web."""
        if self.held is None:
            raise NoHall()
        return self.held

    def do(self, person, kind, *, about="", body):
        """Writes a deed of a person of the house, if it is let in; told is the deed."""
        web = self.own_web()
        deed = written(web, self.house, person, kind, about, body)
        web.take_own(deed)
        return deed

    def hear(self, deeds):
        """Hears things, of any kind, one by one; told is how each one stands, or what refuses it."""
        return self.hear_by(heard, deeds)

    def hear_deeds(self, deeds):
        """Hears what is known to be deeds."""
        return self.hear_by(heard_deed, deeds)

    def hear_by(self, listen, things):
        """Hears things, each by such a function, and writes it into the log."""
        web = self.own_web()
        self.rows.append(("open", web.kept.many))
        try:
            return [listen(web, thing) for thing in things]
        finally:
            self.rows.append(("shut", web.kept.many))

    def asks(self):
        """The names that are missing."""
        return self.own_web().missing()

    def answers(self, names):
        """The deeds that are known of these things, of any kind, in their order."""
        known = self.own_web().kept.known
        return [deed for name in names if is_name(name) and name in known for deed in known[name]]

    def log(self):
        """What was known ahead of and behind each hearing."""
        return list(self.rows)

    def called(self):
        """The house's name."""
        return self.house

    def web(self):
        """A twin of the house's web."""
        return self.own_web().twin()

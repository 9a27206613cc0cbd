"""Stories: webs that are written deed by deed, tales by chance, and the same as a web tells found in slower ways."""

import random

from branchedhall.chains import by_leave, not_given
from branchedhall.deeds import key_of
from branchedhall.errors import Barred, Full
from branchedhall.houses import House
from branchedhall.leave import bar, keys_for, leave_for
from branchedhall.orders import along, by_leaves, line_of, of_rank
from branchedhall.webs import Web
from tests.halls import AMY, BOB, CYD, DAN, FIRST, RANKS, deed, reached

PEOPLE = (AMY, CYD, BOB, DAN)


def name_of(text):
    """A name as it is written in short: ash3 for ("ash", 3)."""
    house = text.rstrip("0123456789")
    return (house, int(text[len(house):]))


def names_of(text):
    """Names by their short words."""
    return [name_of(word) for word in text.split()]


class Story:
    """A web that is written deed by deed, each one with the leave that the state ahead of it gives."""

    def __init__(self, rules=1):
        self.first = deed(FIRST, "begin", AMY, body=(rules, None))
        self.web = Web(self.first)

    def written(self, name, kind, who, about="", body=None, after=None):
        """The deed by a name that is told in short, behind the ends if nothing else is told."""
        after = self.web.ends() if after is None else names_of(after)
        state = slow_made(self.web.hall(), [self.web.behind(one) for one in after])[0]
        told = deed(name_of(name), kind, who, about, body, after)
        return told[:6] + (leave_for(state, *told[1:5]),)

    def add(self, name, kind, who, about="", body=None, after=None, stands="let"):
        """Puts such a deed, which stands as told; told is the name."""
        told = self.written(name, kind, who, about, body, after)
        stood = self.web.put(told)
        assert stood == stands, (told, stood, self.web.why(told[0]))
        return told[0]

    def behind(self, *names):
        """The states behind some names that are told in short."""
        return [self.web.behind(name_of(name)) for name in names]


def gathered(ranks=((AMY, 100), (BOB, 60), (CYD, 60)), wanted=(), rules=1):
    """A story in which amy, bob, cyd and dan came by the open door, and ranks were told; its end is ash9."""
    story = Story(rules)
    story.add("ash1", "seat", AMY, AMY, "in")
    story.add("ash2", "door", AMY, body="open")
    story.add("ash3", "seat", CYD, CYD, "in")
    story.add("birch1", "seat", BOB, BOB, "in")
    story.add("elm1", "seat", DAN, DAN, "in")
    story.add("ash9", "ranks", AMY, body=(tuple(sorted(ranks)), tuple(sorted(wanted))))
    return story


def slow_made(hall, states):
    """What is made of states, word by word."""
    keys = [key for key in states[0] if all(key in state and state[key] == states[0][key] for state in states)]
    chains = [set(reached(hall, state.values(), 6)) for state in states]
    differ = {name for state in states for key, name in state.items() if key not in keys}
    differ |= set.union(*chains) - set.intersection(*chains)
    state, paper = {key: states[0][key] for key in keys}, []
    first = of_rank(hall, sorted(differ))
    for name in by_leaves(hall, first):
        paper.append((name, slow_step(hall, state, name)))
    line = line_of(hall, state.get(RANKS))
    for name in along(hall, line, sorted(differ - set(first))):
        paper.append((name, slow_step(hall, state, name)))
    return {**state, **{key: states[0][key] for key in keys}}, paper


def slow_step(hall, state, name):
    """Looks at one deed, lets it stand where it has leave, and tells what bars it."""
    one = hall[name]
    own = {key: state[key] for key in keys_for(*one[1:5]) if key in state}
    rule = bar(hall, {**by_leave(hall, one), **own}, one)
    if rule is None and key_of(one) is not None:
        state[key_of(one)] = name
    return rule


class SlowWeb:
    """All that a web tells, found anew from the deeds alone."""

    def __init__(self, first, deeds):
        self.first, self.known = first, {first[0]: [first]}
        for one in deeds:
            known = self.known.setdefault(one[0], [])
            if one not in known and len(known) < 2 and one[0] != first[0]:
                known.append(one)
        self.settled, self.whys, self.aheads = set(), {}, {}
        self.find_settled()
        for name in self.known:
            self.find_why(name)
        self.hall = {name: self.known[name][0] for name in self.aheads}

    def find_settled(self):
        """Those that don't wait: twins, and what names such alone."""
        while True:
            more = {name for name, deeds in self.known.items()
                    if len(deeds) == 2 or self.settled.issuperset(deeds[0][5] + deeds[0][6])}
            if more == self.settled:
                return
            self.settled = more

    def find_why(self, name):
        """What bars a name, those that it names first."""
        if name in self.whys or name not in self.settled:
            return self.whys.get(name)
        one = self.known[name][0]
        if len(self.known[name]) == 1:
            for other in one[5] + one[6]:
                self.find_why(other)
        self.whys[name] = self.found_why(name, one)
        return self.whys[name]

    def found_why(self, name, one):
        """What bars a deed, those that it names being found."""
        if name == self.first[0]:
            self.aheads[name] = {}
            return None
        if len(self.known[name]) == 2:
            return ("twin", "")
        if any(self.whys[other] for other in one[5] + one[6]):
            return ("ahead", "")
        if one[1] == "begin":
            return ("here", "begun")
        hall = {other: self.known[other][0] for other in self.aheads}
        past = reached(hall, one[5], 5)
        if not set(past).issuperset(one[6]):
            return ("past", "leave")
        if one[1] == "strike" and one[4] not in past:
            return ("past", "strike")
        if not_given(hall, one) is not None:
            return ("leave", not_given(hall, one))
        ahead = slow_made(hall, [self.behind(other) for other in one[5]])[0]
        if bar(hall, ahead, one) is not None:
            return ("here", bar(hall, ahead, one))
        self.aheads[name] = ahead
        return None

    def behind(self, name):
        """The state behind a deed that is let in."""
        key = key_of(self.known[name][0])
        return self.aheads[name] if key is None else {**self.aheads[name], key: name}

    def stand(self, name):
        """How a name stands."""
        if name not in self.settled:
            return "waits"
        return "barred" if self.whys[name] else "let"

    def ends(self):
        """The ends."""
        return sorted(name for name in self.hall if not any(name in one[5] for one in self.hall.values()))

    def missing(self):
        """What is missing."""
        named = {name for deeds in self.known.values() for one in deeds for name in one[5] + one[6]}
        return sorted(named - set(self.known))

    def made_now(self):
        """The state now, and its paper."""
        return slow_made(self.hall, [self.behind(name) for name in self.ends()[-6:]])

    def soft(self):
        """Those that have no leave now."""
        found = []
        for name, one in self.hall.items():
            state, key = self.made_now()[0], key_of(one)
            state.pop(key, None)
            if key in self.aheads[name]:
                state[key] = self.aheads[name][key]
            if one[1] != "begin" and bar(self.hall, state, one) is not None:
                found.append(name)
        return sorted(found)

    def may_go(self):
        """Says whose words may be let go, none being let go."""
        ends = self.ends()
        pasts = [reached(self.hall, [end], 5) for end in ends]
        return sorted(name for name, one in self.hall.items()
                      if one[1] == "say" and name not in ends and all(name in past for past in pasts))


def told_of(web):
    """All that a web tells, of whatever order its deeds were put in, for comparing."""
    names = web.names()
    let = [name for name in names if web.stand(name) == "let"]
    return {
        "names": names, "stand": [web.stand(name) for name in names], "why": [web.why(name) for name in names],
        "both": [sorted(web.both(name), key=repr) for name in names], "missing": web.missing(), "ends": web.ends(),
        "ahead": [web.ahead(name) for name in let], "behind": [web.behind(name) for name in let],
        "past": [web.past(name) for name in let], "now": web.now(), "paper": web.paper(), "soft": web.soft(),
        "hall": web.hall(), "may go": web.may_go(), "many": len(web),
    }


def told_of_slow(slow):
    """The same, found in slower ways."""
    names = sorted(slow.known)
    let = [name for name in names if slow.stand(name) == "let"]
    now, paper = slow.made_now()
    return {
        "names": names, "stand": [slow.stand(name) for name in names],
        "why": [slow.whys.get(name) for name in names],
        "both": [sorted(slow.known[name], key=repr) for name in names], "missing": slow.missing(),
        "ends": slow.ends(), "ahead": [slow.aheads[name] for name in let],
        "behind": [slow.behind(name) for name in let], "past": [reached(slow.hall, [name], 5) for name in let],
        "now": now, "paper": paper, "soft": slow.soft(), "hall": slow.hall, "may go": slow.may_go(),
        "many": len(names),
    }


def chance_body(chance, kind, names):
    """A body of a kind, by chance."""
    if kind == "seat":
        return chance.choice(("in", "in", "in", "out", "called", "barred"))
    if kind == "ranks":
        low = [(person, chance.choice((0, 10, 50, 60, 100))) for person in (BOB, CYD, DAN) if chance.random() < 0.7]
        words = [(word, chance.choice((0, 10, 50, 60))) for word in ("bar", "call", "ranks") if chance.random() < 0.3]
        return (tuple(sorted(low + [(AMY, chance.choice((100, 100, 100, 60)))])), tuple(words))
    if kind == "strike":
        return chance.choice(names)
    return {"door": chance.choice(("open", "open", "asked")), "say": chance.choice(("oh", "", "good day")),
            "move": chance.choice((1, 2)), "begin": (1, None)}[kind]


def spoiled(chance, one, names):
    """A deed with something put otherwise: by a name of its own, or a second one by its name."""
    after, leave, body = one[5], one[6], one[4]
    if chance.random() < 0.7:
        one = ((one[0][0], one[0][1] + 500),) + one[1:]
    way = chance.randrange(7)
    if way == 0:
        leave = tuple(sorted(set(leave + (chance.choice(names),)) - {one[0]}))[:6]
    elif way == 1:
        leave = leave[:-1] or leave
    elif way == 2:
        after = tuple(sorted(set(chance.sample(names, min(3, len(names)))) - {one[0]})) or after
    elif way == 3 and one[1] == "say":
        body = body + "!"
    elif way == 4:
        after = tuple(sorted(set(after[:5] + (("fir", chance.randrange(3)),))))
    elif way == 5 and one[1] == "ranks":
        body = (((one[2], 100),), ())
    elif way == 6:
        one, body = (one[0], "strike", one[2], ""), chance.choice(names)
    return one[:4] + (body, after, leave)


def chance_deeds(seed, steps, lies=0.15):
    """A begin, and deeds by chance as several houses wrote them, some of them spoiled, in the order of writing."""
    chance = random.Random(seed)
    houses = {house: House(house) for house in ("ash", "birch", "elm")}
    first = houses["ash"].begin(AMY, rules=chance.choice((1, 2)))
    for house in ("birch", "elm"):
        houses[house].told(first)
    deeds = []

    def told(one, *others):
        deeds.append(one)
        for other in others:
            houses[other].hear([one])

    for kind, about, body in (("seat", AMY, "in"), ("door", "", "open")):
        told(houses["ash"].do(AMY, kind, about=about, body=body), "birch", "elm")
    for step in range(steps):
        who = chance.choice(PEOPLE)
        house = who.split("@")[1]
        kind = chance.choice(("seat",) * 6 + ("ranks",) * 4 + ("door", "say", "say", "strike", "move"))
        about = chance.choice((who, who, AMY, BOB, CYD, DAN)) if kind == "seat" else ""
        body = chance_body(chance, kind, houses[house].web().names())
        try:
            one = houses[house].do(who, kind, about=about, body=body)
        except (Barred, Full):
            continue
        told(one, *[other for other in houses if chance.random() < 0.4])
        if chance.random() < lies:
            told(spoiled(chance, one, [FIRST] + [other[0] for other in deeds]), *chance.sample(sorted(houses), 1))
        if chance.random() < 0.1:
            houses[chance.choice(sorted(houses))].hear(deeds)
    return first, deeds

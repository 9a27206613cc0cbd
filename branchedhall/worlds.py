"""Worlds: several houses that keep one hall, and rows of what they do, tell one another, and lose [23]."""

from branchedhall.deeds import NAME, is_one_of
from branchedhall.errors import Barred, NoDeed, NoHouse, NoHouses, NoRow
from branchedhall.houses import House
from branchedhall.webs import MOST
from branchedhall.words import is_whole, is_word

MOST_HOUSES = 6
# The words of rows; of each how many things it has in all, and how many of them, behind the word, are houses.
ROW_WORDS = ("do", "send", "some", "fetch", "lie", "part", "meet")
THINGS = {"do": 6, "send": 3, "some": 4, "fetch": 3, "lie": 3, "part": 2, "meet": 2}
HOUSES = {"do": 1, "send": 2, "some": 2, "fetch": 2, "lie": 1, "part": 1, "meet": 1}
LOST = "lost"


def look_at_houses(thing):
    """Refuses with NoHouses what is no list of one to six unlike houses."""
    if not isinstance(thing, list) or not 1 <= len(thing) <= MOST_HOUSES:
        raise NoHouses(None)
    for number, house in enumerate(thing):
        if not is_word(house) or house in thing[:number]:
            raise NoHouses(number)


def done(home, person, kind, about, body):
    """The name of a deed that a house does, or a tuple for what refuses it."""
    try:
        return home.do(person, kind, about=about, body=body)[NAME]
    except NoDeed as wrong:
        return ("none", wrong.part)
    except Barred as barred:
        return ("barred", barred.where, barred.rule)


def sent(teller, hearer):
    """What the hearer tells of all that the teller knows."""
    return hearer.hear_deeds(teller.own_web().all_deeds())


def sent_some(teller, hearer, many):
    """What the hearer tells of the first so many deeds that it doesn't know, turned about."""
    news = hearer.own_web().unknown_of(teller.own_web().all_deeds())
    return hearer.hear_deeds(news[:many][::-1])


def fetched(asker, teller):
    """What the asker tells of the answers, as long as names become known by them."""
    told = []
    known = 0
    while len(asker.own_web()) > known:
        known = len(asker.own_web())
        told.extend(asker.hear_deeds(teller.answers(asker.asks())))
    return told


class World:
    """Houses, in the order in which they were handed in, the homes by their names, and those that are away."""

    def __init__(self, houses, person, *, rules=1):
        look_at_houses(houses)
        self.order = list(houses)
        self.homes = {house: House(house) for house in houses}
        self.away = {}
        first = self.homes[houses[0]]
        first.begin(person, rules=rules)
        # What they are told is the begin: it was looked at already, and none of them has a hall.
        for house in houses[1:]:
            self.homes[house].share(first.own_web())

    def has(self, thing):
        """Whether a thing, of any kind, is a house of this world."""
        # What is no text might not even be looked for.
        return isinstance(thing, str) and thing in self.homes

    def is_row(self, thing):
        """Whether a thing, of any kind, is a row of this world."""
        if not isinstance(thing, tuple) or len(thing) == 0 or not is_one_of(thing[0], ROW_WORDS):
            return False
        word = thing[0]
        if len(thing) != THINGS[word]:
            return False
        for house in thing[1:HOUSES[word] + 1]:
            if not self.has(house):
                return False
        return word != "some" or (is_whole(thing[3]) and 0 <= thing[3] <= MOST)

    def weave(self, rows):
        """Does rows one by one; told is what each one told."""
        if not isinstance(rows, list):
            raise NoRow(None)
        told = []
        for number, row in enumerate(rows):
            if not self.is_row(row):
                raise NoRow(number)
            told.append(self.woven(row))
        return told

    def woven(self, row):
        """Does one row; told is what it told."""
        word, house, *rest = row
        home = self.homes[house]
        if word == "do":
            return done(home, *rest)
        if word == "lie":
            return home.hear(rest)
        if word == "part":
            self.away[house] = True
            return None
        if word == "meet":
            self.away = {other: True for other in self.away if other != house}
            return None
        return self.between(word, house, *rest)

    def between(self, word, house, other, many=0):
        """Does a row in which one house tells another; nothing comes from or to one that is parted."""
        if house in self.away or other in self.away:
            return LOST
        if word == "send":
            return sent(self.homes[house], self.homes[other])
        if word == "some":
            return sent_some(self.homes[house], self.homes[other], many)
        return fetched(self.homes[house], self.homes[other])

    def houses(self):
        """The houses, as they were handed in."""
        return list(self.order)

    def own_web(self, house):
        """A house's own web."""
        if not self.has(house):
            raise NoHouse(house)
        return self.homes[house].own_web()

    def web(self, house):
        """A twin of a house's web."""
        return self.own_web(house).twin()

    def is_one(self):
        """Whether all houses that aren't parted tell the same state now."""
        states = [self.own_web(house).now() for house in self.order if house not in self.away]
        return all([state == states[0] for state in states])

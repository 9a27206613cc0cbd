"""The desk: worlds by names, told and asked by rows of words [26], with its refusals [27]."""

from branchedhall.errors import Barred, NoDeed, NoHouse, NoName, NoRow, TooMany
from branchedhall.ranks import ranked, seat_in
from branchedhall.struck import shown
from branchedhall.texts import NOTHING, read_about, read_body, read_kind, read_name, read_person
from branchedhall.texts import show, show_name, show_names
from branchedhall.words import house_of, is_name, is_person, is_word
from branchedhall.worlds import LOST, World

MOST_WORLDS = 10
DO_WORDS = 6

# What stands behind the first word of each row, but for `world` and `do`.
FORMS = {
    "drop": ("NAME",),
    "names": (),
    "send": ("NAME", "HOUSE", "HOUSE"),
    "fetch": ("NAME", "HOUSE", "HOUSE"),
    "part": ("NAME", "HOUSE"),
    "meet": ("NAME", "HOUSE"),
    "now": ("NAME", "HOUSE"),
    "ranks": ("NAME", "HOUSE"),
    "seat": ("NAME", "HOUSE", "PERSON"),
    "ends": ("NAME", "HOUSE"),
    "missing": ("NAME", "HOUSE"),
    "soft": ("NAME", "HOUSE"),
    "why": ("NAME", "HOUSE", "DEED"),
    "show": ("NAME", "HOUSE", "DEED"),
    "same": ("NAME",),
}
WORLD_FORM = ("NAME", "PERSON", "RULES")


def read_short_word(word):
    """A word that is a house, or a name of a world."""
    return word if is_word(word) else None


def read_short_person(word):
    """A word that is a person."""
    return word if is_person(word) else None


def read_rules(word):
    """A number of rules."""
    return int(word) if word in ("1", "2") else None


READERS = {
    "NAME": read_short_word,
    "HOUSE": read_short_word,
    "PERSON": read_short_person,
    "RULES": read_rules,
    "DEED": read_name,
}


def read_as(place, word):
    """What a word is at such a place of a row, or None where it can't stand there."""
    read_it = READERS[place]
    return read_it(word)


def form_of(words):
    """What should stand behind the first word of a row; of a world there may be any number of houses, but one."""
    if words[0] == "world":
        return WORLD_FORM + ("HOUSE",) * max(1, len(words) - len(WORLD_FORM) - 1)
    return FORMS.get(words[0])


def read_plain(words):
    """What the words of a row are, behind the first of them; None where they are no row."""
    form = form_of(words)
    if form is None or len(form) != len(words) - 1:
        return None
    return [read_as(place, word) for place, word in zip(form, words[1:])]


def read_do(row):
    """What the words of a row of `do` are, behind the first of them; None where they are too few."""
    # All that follows the blank behind ABOUT is the body: only what is said may have blanks.
    words = row.split(" ", DO_WORDS - 1)
    if len(words) != DO_WORDS or read_kind(words[3]) is None:
        return None
    kind, about, body = words[3:]
    said = body if kind == "say" else read_body(kind, body)
    return [read_short_word(words[1]), read_person(words[2]), kind, read_about(kind, about), said]


def read_row(row):
    """The first word of a row, and what its other words are; NoRow of what is none, of anything."""
    if not isinstance(row, str) or "\n" in row:
        raise NoRow(0)
    words = row.split(" ")
    things = read_do(row) if words[0] == "do" else read_plain(words)
    if things is None or None in things:
        raise NoRow(0)
    return [words[0], *things]


def listed(words):
    """Words with blanks between, also none of them."""
    return " ".join(words) or NOTHING


def look_for_houses(world, houses):
    """Refuses with NoHouse the first house that isn't in a world."""
    for house in houses:
        if house not in world.houses():
            raise NoHouse(house)


def answer_do(world, person, kind, about, body):
    """The name of a deed that the person's house does."""
    house = house_of(person)
    look_for_houses(world, [house])
    told = world.weave([("do", house, person, kind, about, body)])[0]
    if is_name(told):
        return show_name(told)
    if told[0] == "barred":
        raise Barred(told[1], told[2])
    raise NoDeed(told[1])


def told_between(world, word, first, second, counted):
    """How many names a house knows behind a row between two houses; `lost` where one is parted."""
    look_for_houses(world, [first, second])
    if world.weave([(word, first, second)]) == [LOST]:
        return LOST
    return str(len(world.own_web(counted)))


def answer_send(world, teller, hearer):
    """How many names the hearer knows then."""
    return told_between(world, "send", teller, hearer, hearer)


def answer_fetch(world, asker, teller):
    """How many names the asker knows then."""
    return told_between(world, "fetch", asker, teller, asker)


def answer_part(world, house):
    """Parts a house."""
    look_for_houses(world, [house])
    world.weave([("part", house)])
    return "ok"


def answer_meet(world, house):
    """Lets a house meet the others again."""
    look_for_houses(world, [house])
    world.weave([("meet", house)])
    return "ok"


def answer_same(world):
    """Whether all houses that aren't parted tell the same state now."""
    return "yes" if world.is_one() else "no"


def show_key(key):
    """A key as it is written."""
    kind, about = key
    return kind if about == "" else f"{kind}/{about}"


def answer_now(web):
    """The state now."""
    now = web.now()
    return listed(sorted([f"{show_key(key)}={show_name(now[key])}" for key in now]))


def answer_ranks(web):
    """The ranks above 0."""
    people = ranked(web.hall(), web.now())
    return listed([f"{person}={people[person]}" for person in sorted(people)])


def answer_seat(web, person):
    """A person's seat."""
    return seat_in(web.hall(), web.now(), person)


def answer_ends(web):
    """The ends."""
    return show_names(web.ends())


def answer_missing(web):
    """The missing names."""
    return show_names(web.missing())


def answer_soft(web):
    """Those that have no leave now."""
    return show_names(web.soft())


def answer_why(web, name):
    """How a deed stands, or where it is barred and by which rule."""
    why = web.why(name)
    return web.stand(name) if why is None else " ".join([part for part in why if part != ""])


def answer_show(web, name):
    """A deed's row, thinned where it is struck."""
    return show(shown(web, name))


WORLD_ANSWERS = {
    "do": answer_do,
    "send": answer_send,
    "fetch": answer_fetch,
    "part": answer_part,
    "meet": answer_meet,
    "same": answer_same,
}
WEB_ANSWERS = {
    "now": answer_now,
    "ranks": answer_ranks,
    "seat": answer_seat,
    "ends": answer_ends,
    "missing": answer_missing,
    "soft": answer_soft,
    "why": answer_why,
    "show": answer_show,
}


def answer_of_web(world, word, house, *things):
    """What is answered of a house's web."""
    web = world.own_web(house)
    answer = WEB_ANSWERS[word]
    return answer(web, *things)


def answer_of_world(world, word, things):
    """What is answered of a world, or of the web of one of its houses."""
    if word in WEB_ANSWERS:
        return answer_of_web(world, word, *things)
    answer = WORLD_ANSWERS[word]
    return answer(world, *things)


class Desk:
    """The worlds that are kept, by their names."""

    def __init__(self):
        self.worlds = {}

    def say(self, row):
        """Does what a row of words says; told is the answer."""
        word, *things = read_row(row)
        if word == "names":
            return listed(sorted(self.worlds))
        if word == "world":
            return self.keep(*things)
        name, *rest = things
        if name not in self.worlds:
            raise NoName(name)
        if word == "drop":
            del self.worlds[name]
            return "ok"
        return answer_of_world(self.worlds[name], word, rest)

    def keep(self, name, person, rules, *houses):
        """Keeps a new world, in the stead of one that is there."""
        world = World(list(houses), person, rules=rules)
        many = len(self.worlds) + 1
        if name not in self.worlds and many > MOST_WORLDS:
            raise TooMany(many)
        self.worlds[name] = world
        return "ok"

    def __len__(self):
        return len(self.worlds)

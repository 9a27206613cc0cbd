"""[3]: the promise over the whole, for tales by chance: partings, losses and lies among them."""

import random
import unittest

from branchedhall.chains import chain_paper, lets_chain, not_given
from branchedhall.deeds import key_of
from branchedhall.desk import Desk
from branchedhall.errors import Barred
from branchedhall.giving import giving_of, lets_giving
from branchedhall.houses import House
from branchedhall.made import lets_made, made, state_by
from branchedhall.moves import is_kept, moved
from branchedhall.ranks import ranked
from branchedhall.struck import shown, struck_in, thin_hall, thinned
from branchedhall.texts import read, read_all, show, show_all
from branchedhall.worlds import World
from tests.halls import AMY, BOB, CYD, DAN
from tests.samples import altered
from tests.stories import SlowWeb, chance_deeds, told_of

TALES = [chance_deeds(seed, 50, 0.15) for seed in range(24)]


def house_of_all(name, first, deeds):
    """A house that knows these deeds."""
    house = House(name)
    house.told(first)
    house.hear(deeds)
    return house


def web_of(first, deeds):
    """A web that knows these deeds."""
    return house_of_all("zz", first, deeds).web()


def hangs_on(slow, name):
    """The names of all known deeds that name a name, or name one that does."""
    found = {name}
    while True:
        more = found | {other for other, deeds in slow.known.items()
                        if any(found & set(one[5] + one[6]) for one in deeds)}
        if more == found:
            return found
        found = more


def states_behind(web):
    """The states behind all deeds that are let in."""
    return {name: web.behind(name) for name in web.hall()}


class SameDeedsSameTold(unittest.TestCase):
    """(a)"""

    def test_in_unlike_orders(self):
        twins = 0
        for seed, (first, deeds) in enumerate(TALES):
            chance, told = random.Random(seed), []
            # A third deed by one name is passed over, so that all know the same.
            known = SlowWeb(first, deeds).known
            deeds = [one for both in known.values() for one in both]
            twins += len([both for both in known.values() if len(both) > 1])
            for house in ("ash", "birch", "gorse"):
                chance.shuffle(deeds)
                home = House(house)
                home.told(first)
                for at in range(0, len(deeds), 7):
                    home.hear(deeds[at:at + 7])
                    home.web().soft()
                told.append(told_of(home.web()))
            self.assertEqual(told[0], told[1])
            self.assertEqual(told[0], told[2])
        self.assertGreater(twins, 10)


class HadLeave(unittest.TestCase):
    """(b)"""

    def test_by_the_deeds_that_they_name(self):
        for first, deeds in TALES:
            web = web_of(first, deeds)
            hall = web.hall()
            for name in hall:
                paper = chain_paper(hall, name)
                self.assertTrue(lets_chain(hall, name, paper))
                self.assertEqual({not_given(hall, hall[one]) for one in paper}, {None})
                self.assertEqual(paper[0], first[0])
                self.assertTrue(set(paper) <= set(web.past(name)))


class MadeAsTold(unittest.TestCase):
    """(c)"""

    def test_the_state_now_and_those_ahead(self):
        for first, deeds in TALES:
            web = web_of(first, deeds)
            hall, states = web.hall(), [web.behind(name) for name in web.ends()[-6:]]
            self.assertEqual(made(hall, states[::-1]), (web.now(), web.paper()))
            self.assertTrue(lets_made(hall, states, web.paper()))
            self.assertEqual(state_by(hall, states, web.paper()), web.now())
            for name, one in hall.items():
                if one[1] != "begin":
                    ahead = made(hall, [web.behind(other) for other in one[5]])
                    self.assertEqual(ahead[0], web.ahead(name))
            for state in states:
                self.assertEqual(made(hall, [state] * 4), (state, []))
            alike = {key: name for key, name in states[0].items() if all(state.get(key) == name for state in states)}
            self.assertTrue(alike.items() <= web.now().items())


class RanksByGivings(unittest.TestCase):
    """(d)"""

    def test_each_rank_has_one(self):
        for first, deeds in TALES:
            web = web_of(first, deeds)
            hall, now = web.hall(), web.now()
            for person, rank in ranked(hall, now).items():
                giving = giving_of(hall, now, person)
                self.assertTrue(lets_giving(hall, now, person, giving))
                self.assertEqual(giving[0][1:], (person, rank))
                self.assertEqual(giving[-1], (first[0], first[2], 100))
                for (name, who, much), (other, giver, more) in zip(giving, giving[1:]):
                    self.assertEqual((hall[name][1], hall[name][2], dict(hall[name][4][0])[who]), ("ranks", giver, much))
                    self.assertGreaterEqual(more, much)


class Missing(unittest.TestCase):
    """(e)"""

    def test_keeps_waiting_what_hangs_on_it_alone(self):
        waited = 0
        for seed, (first, deeds) in enumerate(TALES):
            name = random.Random(seed).choice(deeds)[0]
            lost = [one for one in deeds if one[0] == name]
            rest = [one for one in deeds if one[0] != name]
            whole, slow = web_of(first, deeds), SlowWeb(first, deeds)
            house = house_of_all("ash", first, rest)
            hanging = hangs_on(slow, name)
            behind = states_behind(house.web())
            for other in house.web().names():
                if other not in hanging:
                    self.assertEqual((house.web().stand(other), house.web().why(other)),
                                     (whole.stand(other), whole.why(other)))
            self.assertTrue(set(house.asks()) >= ({name} if len(hanging) > 1 else set()))
            waited += len([other for other in hanging - {name} if house.web().stand(other) == "waits"])
            # Fetched back it changes no state behind a deed that didn't hang on it.
            teller = house_of_all("birch", first, deeds)
            house.hear(teller.answers(house.asks()))
            house.hear(lost)
            for other, state in behind.items():
                if other not in hanging:
                    self.assertEqual(house.web().behind(other), state)
            self.assertEqual(told_of(house.web()), told_of(whole))
        self.assertGreater(waited, 20)


class MissingInAWorld(unittest.TestCase):
    """(e), with worlds"""

    def test_fetched_back(self):
        for seed in range(12):
            chance = random.Random(seed)
            world = World(["ash", "birch", "elm"], AMY)
            rows = [("do", "ash", AMY, "seat", AMY, "in"), ("do", "ash", AMY, "door", "", "open"),
                    ("send", "ash", "birch"), ("do", "birch", BOB, "seat", BOB, "in"), ("part", "elm")]
            world.weave(rows + [("do", "ash", AMY, "say", "", "oh")] * 4 + [("send", "birch", "ash")])
            world.weave([("do", "ash", AMY, "move", "", 2), ("do", "birch", BOB, "say", "", "ah"), ("send", "birch", "ash")])
            deeds = [one for one in world.web("ash").hall().values() if chance.random() < 0.4]
            world.weave([("lie", "elm", one) for one in deeds])
            behind = states_behind(world.web("elm"))
            self.assertEqual(world.weave([("fetch", "elm", "ash")]), ["lost"])
            world.weave([("meet", "elm"), ("fetch", "elm", "ash")])
            web = world.web("elm")
            self.assertEqual(web.missing(), [])
            self.assertEqual({name: web.behind(name) for name in behind}, behind)
            self.assertEqual({web.stand(name) for name in web.names()}, {"let"})
            world.weave([("send", "ash", "elm"), ("send", "ash", "birch")])
            self.assertTrue(world.is_one())
            self.assertEqual(told_of(world.web("elm")), told_of(world.web("ash")))


class StruckOut(unittest.TestCase):
    """(f)"""

    def test_changes_no_state(self):
        struck = 0
        for seed, (first, deeds) in enumerate(TALES):
            house = house_of_all("ash", first, deeds)
            web = house.web()
            if len(web.ends()) > 6:
                continue
            now, behind = web.now(), states_behind(web)
            for name in random.Random(seed).sample(list(web.hall()), 3):
                try:
                    house.do(AMY, "strike", body=name)
                except Barred:
                    continue
                struck += 1
                self.assertIn(name, struck_in(house.web()))
                self.assertEqual(shown(house.web(), name), thinned(web.deed(name)))
                self.assertEqual(house.web().now(), now)
                self.assertEqual({one: house.web().behind(one) for one in behind}, behind)
            # Their words gone, all is told of the hall as before.
            thin = thin_hall(web.hall(), struck_in(house.web()))
            ends = [web.behind(name) for name in web.ends()]
            self.assertEqual(made(thin, ends), (now, web.paper()))
        self.assertGreater(struck, 10)


class LetGo(unittest.TestCase):
    """(g)"""

    def test_changes_these_words_alone(self):
        gone = 0
        for first, deeds in TALES:
            web = web_of(first, deeds)
            before, going = told_of(web), web.may_go()
            web.let_go(going)
            after = told_of(web)
            self.assertEqual(after["may go"], [])
            for key in before:
                if key == "hall":
                    bare = {name: altered(one, body="") if name in going else one for name, one in before[key].items()}
                    self.assertEqual(after[key], bare)
                elif key not in ("may go", "both"):
                    self.assertEqual(after[key], before[key])
            for name in going:
                self.assertEqual(web.put(altered(before["hall"][name], body="never said")), "let")
                self.assertEqual(web.deed(name)[4], "never said")
            gone += len(going)
        self.assertGreater(gone, 10)


class HallsMoved(unittest.TestCase):
    """(h)"""

    def test_the_ranks_the_door_and_the_bars(self):
        told = 0
        for first, deeds in TALES:
            web = web_of(first, deeds)
            for person in (AMY, BOB, CYD, DAN):
                try:
                    new = moved(web.hall(), web.now(), person, rules=2)
                except Barred:
                    continue
                told += 1
                hall, state = {one[0]: one for one in new}, {key_of(one): one[0] for one in new}
                self.assertTrue(is_kept(web.hall(), web.now(), hall, state))
                again = house_of_all("zz", new[0], new).web()
                self.assertEqual((again.hall(), again.now()), (hall, state))
        self.assertGreater(told, 5)


def called_otherwise(thing):
    """A thing of deeds in which each house and each person is called otherwise, the order staying as it was.

    What is said, and the words for kinds, bodies and rules, are no houses: they stay.
    """
    if isinstance(thing, str) and "@" in thing:
        word, house = thing.split("@")
        return "b" + word + "@" + "c" + house
    if isinstance(thing, tuple) and len(thing) == 2 and thing[0] in ("ash", "birch", "elm", "fir"):
        return ("c" + thing[0], thing[1])
    if isinstance(thing, (list, tuple)):
        return type(thing)(called_otherwise(one) for one in thing)
    if isinstance(thing, dict):
        return {called_otherwise(key): called_otherwise(one) for key, one in thing.items()}
    return thing


class CalledOtherwise(unittest.TestCase):
    """(i)"""

    def test_tells_alike(self):
        for first, deeds in TALES:
            other = told_of(web_of(called_otherwise(first), called_otherwise(deeds)))
            told = told_of(web_of(first, deeds))
            both = called_otherwise(told.pop("both"))
            self.assertEqual([sorted(few, key=repr) for few in other.pop("both")],
                             [sorted(few, key=repr) for few in both])
            self.assertEqual(other, called_otherwise(told))


    def test_a_desk_answers_alike(self):
        rows = ["world hall amy@ash 2 ash birch elm", "do hall amy@ash seat amy@ash in", "do hall amy@ash door - open",
                "send hall ash birch", "do hall bob@birch seat bob@birch in", "do hall amy@ash ranks - bob@birch=60;",
                "send hall birch ash", "do hall bob@birch say - !", "fetch hall elm ash", "send hall ash elm",
                "now hall ash", "now hall elm", "ranks hall ash", "ends hall ash", "soft hall ash", "missing hall elm",
                "seat hall ash bob@birch", "why hall ash birch:0", "show hall ash birch:0", "same hall", "names"]

        def renamed(text):
            for house in ("ash", "birch", "elm"):
                text = text.replace(house, "c" + house)
            return text.replace("amy@", "bamy@").replace("bob@", "bbob@")
        one, two = Desk(), Desk()
        for row in rows:
            self.assertEqual(two.say(renamed(row)), renamed(one.say(row)))


class WrittenAndReadBack(unittest.TestCase):
    """(j)"""

    def test_what_a_desk_shows(self):
        desk, world = Desk(), World(["ash", "birch"], AMY)
        desk.say("world hall amy@ash 1 ash birch")
        rows = [("seat", AMY, "in", AMY), ("door", "", "open", "-"), ("say", "", " a  b ", "-"), ("say", "", "", "-"),
                ("move", "", 2, "-"), ("strike", "", ("ash", 0), "-"), ("ranks", "", (((AMY, 100),), (("say", 5),)), "-")]
        written = ["in", "open", " a  b ", "", "2", "ash:0", "amy@ash=100;say=5"]
        for number, ((kind, about, body, shown_about), text) in enumerate(zip(rows, written), 1):
            self.assertEqual(desk.say(f"do hall amy@ash {kind} {shown_about} {text}"), f"ash:{number}")
            world.weave([("do", "ash", AMY, kind, about, body)])
        for name in world.web("ash").names():
            row = desk.say(f"show hall ash {name[0]}:{name[1]}")
            self.assertEqual(read(row), world.web("ash").deed(name))
            self.assertEqual(show(read(row)), row)

    def test_webs(self):
        for first, deeds in TALES:
            text = show_all(deeds)
            self.assertEqual(read_all(text), deeds)
            self.assertEqual([read(row) for row in text.split("\n")], deeds)
            other = web_of(read(show(first)), read_all(text))
            self.assertEqual(told_of(other), told_of(web_of(first, deeds)))


if __name__ == "__main__":
    unittest.main()

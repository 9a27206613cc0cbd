"""[3]: the promise over the whole, for tales by chance: partings, losses and lies among them."""

import random
import unittest

from branchedhall.chains import chain_paper, lets_chain, not_given
from branchedhall.giving import giving_of, lets_giving
from branchedhall.houses import House
from branchedhall.made import lets_made, made, state_by
from branchedhall.ranks import ranked
from branchedhall.texts import read, read_all, show, show_all
from tests.samples import altered
from tests.stories import SlowWeb, chance_deeds, told_of

TALES = [chance_deeds(seed, 50, 0.15) for seed in range(24)]


def house_of_all(name, first, deeds):
    """A house that knows these deeds."""
    house = House(name)
    house.told(first)
    house.hear(deeds)
    return house


def web_of(first, deeds):
    """A web that knows these deeds."""
    return house_of_all("zz", first, deeds).web()


def hangs_on(slow, name):
    """The names of all known deeds that name a name, or name one that does."""
    found = {name}
    while True:
        more = found | {other for other, deeds in slow.known.items()
                        if any(found & set(one[5] + one[6]) for one in deeds)}
        if more == found:
            return found
        found = more


def states_behind(web):
    """The states behind all deeds that are let in."""
    return {name: web.behind(name) for name in web.hall()}


class SameDeedsSameTold(unittest.TestCase):
    """(a)"""

    def test_in_unlike_orders(self):
        twins = 0
        for seed, (first, deeds) in enumerate(TALES):
            chance, told = random.Random(seed), []
            # A third deed by one name is passed over, so that all know the same.
            known = SlowWeb(first, deeds).known
            deeds = [one for both in known.values() for one in both]
            twins += len([both for both in known.values() if len(both) > 1])
            for house in ("ash", "birch", "gorse"):
                chance.shuffle(deeds)
                home = House(house)
                home.told(first)
                for at in range(0, len(deeds), 7):
                    home.hear(deeds[at:at + 7])
                    home.web().soft()
                told.append(told_of(home.web()))
            self.assertEqual(told[0], told[1])
            self.assertEqual(told[0], told[2])
        self.assertGreater(twins, 10)


class HadLeave(unittest.TestCase):
    """(b)"""

    def test_by_the_deeds_that_they_name(self):
        for first, deeds in TALES:
            web = web_of(first, deeds)
            hall = web.hall()
            for name in hall:
                paper = chain_paper(hall, name)
                self.assertTrue(lets_chain(hall, name, paper))
                self.assertEqual({not_given(hall, hall[one]) for one in paper}, {None})
                self.assertEqual(paper[0], first[0])
                self.assertTrue(set(paper) <= set(web.past(name)))


class MadeAsTold(unittest.TestCase):
    """(c)"""

    def test_the_state_now_and_those_ahead(self):
        for first, deeds in TALES:
            web = web_of(first, deeds)
            hall, states = web.hall(), [web.behind(name) for name in web.ends()[-6:]]
            self.assertEqual(made(hall, states[::-1]), (web.now(), web.paper()))
            self.assertTrue(lets_made(hall, states, web.paper()))
            self.assertEqual(state_by(hall, states, web.paper()), web.now())
            for name, one in hall.items():
                if one[1] != "begin":
                    ahead = made(hall, [web.behind(other) for other in one[5]])
                    self.assertEqual(ahead[0], web.ahead(name))
            for state in states:
                self.assertEqual(made(hall, [state] * 4), (state, []))
            alike = {key: name for key, name in states[0].items() if all(state.get(key) == name for state in states)}
            self.assertTrue(alike.items() <= web.now().items())


class RanksByGivings(unittest.TestCase):
    """(d)"""

    def test_each_rank_has_one(self):
        for first, deeds in TALES:
            web = web_of(first, deeds)
            hall, now = web.hall(), web.now()
            for person, rank in ranked(hall, now).items():
                giving = giving_of(hall, now, person)
                self.assertTrue(lets_giving(hall, now, person, giving))
                self.assertEqual(giving[0][1:], (person, rank))
                self.assertEqual(giving[-1], (first[0], first[2], 100))
                for (name, who, much), (other, giver, more) in zip(giving, giving[1:]):
                    self.assertEqual((hall[name][1], hall[name][2], dict(hall[name][4][0])[who]), ("ranks", giver, much))
                    self.assertGreaterEqual(more, much)


class Missing(unittest.TestCase):
    """(e)"""

    def test_keeps_waiting_what_hangs_on_it_alone(self):
        waited = 0
        for seed, (first, deeds) in enumerate(TALES):
            name = random.Random(seed).choice(deeds)[0]
            lost = [one for one in deeds if one[0] == name]
            rest = [one for one in deeds if one[0] != name]
            whole, slow = web_of(first, deeds), SlowWeb(first, deeds)
            house = house_of_all("ash", first, rest)
            hanging = hangs_on(slow, name)
            behind = states_behind(house.web())
            for other in house.web().names():
                if other not in hanging:
                    self.assertEqual((house.web().stand(other), house.web().why(other)),
                                     (whole.stand(other), whole.why(other)))
            self.assertTrue(set(house.asks()) >= ({name} if len(hanging) > 1 else set()))
            waited += len([other for other in hanging - {name} if house.web().stand(other) == "waits"])
            # Fetched back it changes no state behind a deed that didn't hang on it.
            teller = house_of_all("birch", first, deeds)
            house.hear(teller.answers(house.asks()))
            house.hear(lost)
            for other, state in behind.items():
                if other not in hanging:
                    self.assertEqual(house.web().behind(other), state)
            self.assertEqual(told_of(house.web()), told_of(whole))
        self.assertGreater(waited, 20)


class LetGo(unittest.TestCase):
    """(g)"""

    def test_changes_these_words_alone(self):
        gone = 0
        for first, deeds in TALES:
            web = web_of(first, deeds)
            before, going = told_of(web), web.may_go()
            web.let_go(going)
            after = told_of(web)
            self.assertEqual(after["may go"], [])
            for key in before:
                if key == "hall":
                    bare = {name: altered(one, body="") if name in going else one for name, one in before[key].items()}
                    self.assertEqual(after[key], bare)
                elif key not in ("may go", "both"):
                    self.assertEqual(after[key], before[key])
            for name in going:
                self.assertEqual(web.put(altered(before["hall"][name], body="never said")), "let")
                self.assertEqual(web.deed(name)[4], "never said")
            gone += len(going)
        self.assertGreater(gone, 10)


def called_otherwise(thing):
    """A thing of deeds in which each house and each person is called otherwise, the order staying as it was.

    What is said, and the words for kinds, bodies and rules, are no houses: they stay.
    """
    if isinstance(thing, str) and "@" in thing:
        word, house = thing.split("@")
        return "b" + word + "@" + "c" + house
    if isinstance(thing, tuple) and len(thing) == 2 and thing[0] in ("ash", "birch", "elm", "fir"):
        return ("c" + thing[0], thing[1])
    if isinstance(thing, (list, tuple)):
        return type(thing)(called_otherwise(one) for one in thing)
    if isinstance(thing, dict):
        return {called_otherwise(key): called_otherwise(one) for key, one in thing.items()}
    return thing


class CalledOtherwise(unittest.TestCase):
    """(i)"""

    def test_tells_alike(self):
        for first, deeds in TALES:
            other = told_of(web_of(called_otherwise(first), called_otherwise(deeds)))
            told = told_of(web_of(first, deeds))
            both = called_otherwise(told.pop("both"))
            self.assertEqual([sorted(few, key=repr) for few in other.pop("both")],
                             [sorted(few, key=repr) for few in both])
            self.assertEqual(other, called_otherwise(told))


class WrittenAndReadBack(unittest.TestCase):
    """(j)"""

    def test_webs(self):
        for first, deeds in TALES:
            text = show_all(deeds)
            self.assertEqual(read_all(text), deeds)
            self.assertEqual([read(row) for row in text.split("\n")], deeds)
            other = web_of(read(show(first)), read_all(text))
            self.assertEqual(told_of(other), told_of(web_of(first, deeds)))


if __name__ == "__main__":
    unittest.main()

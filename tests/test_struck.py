"""[24], and [2] and [3] (f) of it: what is struck, deeds thinned and shown, thinned halls."""

import random
import unittest

from branchedhall.chains import chain_paper, depth_of, not_given
from branchedhall.deeds import look_at_deed
from branchedhall.errors import NoName, Twin
from branchedhall.leave import bar
from branchedhall.made import made
from branchedhall.orders import along, by_leaves, line_of, of_rank, parted
from branchedhall.ranks import ranked
from branchedhall.struck import shown, struck_in, thin_hall, thinned
from branchedhall.webs import Web
from tests.halls import AMY, BOB, CYD, DAN, FIRST, RANKS, Unchanged, deed, turned
from tests.samples import EDGE_DEEDS, ODD_THINGS, ONE_OF_EACH, altered
from tests.stories import chance_deeds, gathered, names_of, told_of


def talk():
    """A story with a say, ash10, one behind it, birch10, and a strike of ash10."""
    story = gathered()
    story.add("ash10", "say", AMY, body="good day")
    story.add("birch10", "say", BOB, body="oh")
    story.add("ash11", "strike", AMY, body=("ash", 10))
    return story


class Struck(unittest.TestCase):
    def test_by_deeds_that_are_let_in(self):
        story = talk()
        self.assertEqual(struck_in(gathered().web), [])
        told = told_of(story.web)
        self.assertEqual(struck_in(web=story.web), names_of("ash10"))
        struck_in(story.web).append(FIRST)
        self.assertEqual(struck_in(story.web), names_of("ash10"))
        # Each once, sorted, of whatever kind.
        for number, struck in enumerate(names_of("birch10 ash10 ash9 ash0 ash11"), 20):
            story.add("ash" + str(number), "strike", AMY, body=struck)
        self.assertEqual(struck_in(story.web), names_of("ash0 ash9 ash10 ash11 birch10"))
        self.assertEqual(told_of(talk().web), told)

    def test_not_by_others(self):
        story = talk()
        web = story.web
        good = story.written("ash20", "strike", AMY, body=("birch", 10))
        # Barred by the rank, by its past; one that waits; a twin.
        rows = [(altered(good, name=("ash", 21), leave=(FIRST,)), "barred"), (altered(good, body=("zz", 1)), "barred"),
                (altered(good, name=("ash", 22), after=(("zz", 1),)), "waits"),
                (story.written("elm20", "strike", DAN, body=("birch", 10)), "barred")]
        for one, stand in rows:
            self.assertEqual(web.put(one), stand)
        twin = altered(good, name=("ash", 30))
        self.assertEqual(web.put(twin), "let")
        self.assertEqual(struck_in(web), names_of("ash10 birch10"))
        self.assertEqual(web.put(altered(twin, body=FIRST)), "barred")
        self.assertEqual(struck_in(web), names_of("ash10"))
        # What is said strikes nothing.
        story.add("ash40", "say", AMY, body="birch:10")
        self.assertEqual(struck_in(web), names_of("ash10"))

    def test_by_rules_two_of_the_own_house(self):
        story = gathered(rules=2)
        story.add("elm10", "say", DAN, body="oh")
        story.add("elm11", "strike", DAN, body=("elm", 10))
        story.add("elm12", "strike", DAN, body=("ash", 9), stands="barred")
        self.assertEqual(struck_in(story.web), names_of("elm10"))


class Thinned(unittest.TestCase):
    def test_each_kind(self):
        for one in (*ONE_OF_EACH, *EDGE_DEEDS):
            body = {"say": "", "begin": (one[4][0] if one[1] == "begin" else None, None)}.get(one[1], one[4])
            told = thinned(one)
            self.assertEqual(told, altered(one, body=body))
            self.assertEqual(thinned(deed=one), told)
            self.assertEqual(thinned(told), told)
            self.assertIs(type(told), tuple)
            self.assertIsNone(look_at_deed(told))

    def test_words_and_elders(self):
        self.assertEqual(thinned(deed(FIRST, "begin", AMY, body=(2, ("elm", 5)))), deed(FIRST, "begin", AMY, body=(2, None)))
        self.assertEqual(thinned(deed(("ash", 1), "say", AMY, body="oh"))[4], "")
        self.assertEqual(thinned(deed(("ash", 1), "strike", AMY))[4], FIRST)


class Shown(unittest.TestCase):
    def test_thinned_where_it_is_struck(self):
        story = talk()
        for name in story.web.names():
            one = story.web.deed(name)
            self.assertEqual(shown(story.web, name), altered(one, body="") if name == ("ash", 10) else one)
            self.assertEqual(shown(name=name, web=story.web), shown(story.web, name))
        self.assertEqual(story.web.deed(("ash", 10))[4], "good day")
        story.add("ash12", "strike", AMY, body=FIRST)
        story.add("ash13", "strike", AMY, body=("ash", 9))
        self.assertEqual(shown(story.web, ("ash", 9)), story.web.deed(("ash", 9)))
        web = Web(deed(FIRST, "begin", AMY, body=(1, ("elm", 7))))
        self.assertEqual(shown(web, FIRST)[4], (1, ("elm", 7)))
        web.put(deed(("ash", 1), "seat", AMY, AMY, "in"))
        web.put(deed(("ash", 2), "strike", AMY, body=FIRST, after=[("ash", 1)], leave=[FIRST, ("ash", 1)]))
        self.assertEqual(shown(web, FIRST), deed(FIRST, "begin", AMY))

    def test_of_whatever_stand(self):
        web = talk().web
        barred, waits = deed(("birch", 20), "say", BOB), deed(("elm", 20), "say", DAN, after=[("zz", 1)])
        for one in (barred, waits):
            web.put(one)
            self.assertEqual(shown(web, one[0]), one)

    def test_names_that_arent_known(self):
        web = talk().web
        for thing in ODD_THINGS + (0, "", "ash:0", ("zz", 1), ("ash", True), ["ash", 0]):
            with self.assertRaises(NoName) as caught:
                shown(web, thing)
            self.assertIs(caught.exception.name, thing)

    def test_twins(self):
        web = talk().web
        one = web.deed(("birch", 10))
        web.put(altered(one, body="ah"))
        with self.assertRaises(Twin) as caught:
            shown(web, ("birch", 10))
        self.assertEqual(caught.exception.name, ("birch", 10))

    def test_it_is_for_showing(self):
        web = talk().web
        self.assertEqual(web.put(shown(web, ("ash", 10))), "barred")
        self.assertEqual(web.why(("ash", 10)), ("twin", ""))


class ThinHalls(unittest.TestCase):
    def test_some_names(self):
        story = talk()
        hall = story.web.hall()
        names = names_of("birch10 ash0 ash9 zz1 ash10")
        with Unchanged(self, hall, names):
            told = thin_hall(hall, names)
        self.assertEqual(told, {name: thinned(one) if name in names else one for name, one in hall.items()})
        self.assertEqual((told[("ash", 10)][4], told[("birch", 10)][4]), ("", ""))
        self.assertEqual(thin_hall(names=tuple(names), hall=turned(hall)), told)
        told.clear()
        self.assertEqual(thin_hall(hall, []), hall)
        self.assertIsNot(thin_hall(hall, []), hall)
        self.assertEqual(thin_hall(hall, [("zz", 1), ("zz", 2)]), hall)
        self.assertEqual(thin_hall({}, names), {})

    def test_all_is_told_as_of_the_hall(self):
        for seed in range(30):
            first, deeds = chance_deeds(seed, 50, 0.1)
            web = Web(altered(first, body=(first[4][0], ("elm", 77))))
            for one in deeds:
                web.put(one)
            hall, chance = web.hall(), random.Random(seed)
            thin = thin_hall(hall, chance.sample(list(hall), len(hall) // 2) + [("zz", 1)])
            names = list(hall)
            states = [web.behind(name) for name in chance.sample(names, min(len(names), 5))]
            self.assertEqual(made(thin, states), made(hall, states))
            self.assertEqual(parted(thin, states), parted(hall, states))
            self.assertEqual(of_rank(thin, names), of_rank(hall, names))
            self.assertEqual(by_leaves(thin, names), by_leaves(hall, names))
            line = line_of(hall, web.now().get(RANKS))
            self.assertEqual(line_of(thin, web.now().get(RANKS)), line)
            self.assertEqual(along(thin, line, names), along(hall, line, names))
            for name in names:
                self.assertEqual(not_given(thin, thin[name]), not_given(hall, hall[name]))
                self.assertEqual(chain_paper(thin, name), chain_paper(hall, name))
                self.assertEqual(depth_of(thin, name), depth_of(hall, name))
                for state in states:
                    self.assertEqual(bar(thin, state, thin[name]), bar(hall, state, hall[name]))
            for state in states:
                self.assertEqual(ranked(thin, state), ranked(hall, state))

    def test_a_web_of_thinned_deeds_tells_the_same(self):
        for seed in range(15):
            first, deeds = chance_deeds(seed, 50, 0)
            web, other = Web(first), Web(thinned(first))
            for one in deeds:
                self.assertEqual(other.put(thinned(one)), web.put(one))
            told, thin = told_of(web), told_of(other)
            for key in told:
                if key not in ("both", "hall"):
                    self.assertEqual(thin[key], told[key])
            self.assertEqual(other.hall(), thin_hall(web.hall(), web.names()))


class StrikingChangesNoState(unittest.TestCase):
    def test_behind_deeds_and_now(self):
        struck = 0
        for seed in range(40):
            first, deeds = chance_deeds(seed, 50, 0)
            web = Web(first)
            for one in deeds:
                web.put(one)
            now, behind = web.now(), {name: web.behind(name) for name in web.hall()}
            ends = web.ends()
            if len(ends) > 6 or web.now().get(("seat", AMY)) is None:
                continue
            for name in list(web.hall()):
                for who in (AMY, CYD):
                    leave = tuple(sorted({now[key] for key in [("begin", ""), RANKS, ("seat", who)] if key in now}))
                    one = (("ash", 900), "strike", who, "", name, tuple(ends), leave)
                    trial = web.twin()
                    if trial.put(one) == "let":
                        struck += 1
                        self.assertEqual(trial.now(), now)
                        self.assertEqual({other: trial.behind(other) for other in behind}, behind)
                        self.assertEqual(shown(trial, name), thinned(web.deed(name)))
        self.assertGreater(struck, 50)


if __name__ == "__main__":
    unittest.main()

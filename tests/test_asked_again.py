"""[16], [17], [19] and [20], with [2]: what a web tells that is asked again, be it changed in between or not.

No clock is asked: the steps that Python does are counted.
"""

import random
import unittest

from branchedhall.errors import Full, NoDeed, NoGoing, NoName, NoState, Twin
from branchedhall.leave import leave_for
from branchedhall.made import lets_made, state_by
from branchedhall.webs import MOST, Web
from tests.samples import altered
from tests.steps import steps_of
from tests.stories import SlowWeb, chance_deeds, told_of_slow

ANN, BOB, CID, DORA, EVE = "ann@n", "bob@n", "cid@e", "dora@e", "eve@w"
FIRST_DEED = (("n", 0), "begin", ANN, "", (1, None), (), ())
PLAIN = ("names", "missing", "ends", "now", "paper", "soft", "may_go", "hall")
OF_NAMES = ("ahead", "behind", "past")
LAST_SEAT = ("w", 0)


def behind(web, name, kind, who, about="", body=None, after=LAST_SEAT):
    """A deed behind one other, with the leave that it has there."""
    leave = leave_for(web.behind(after), kind, who, about, body)
    return (name, kind, who, about, body, (after,), leave)


def grown(rows):
    """The deeds of rows, each a tuple of what behind takes, written one by one."""
    web, deeds = Web(FIRST_DEED), []
    for row in rows:
        deeds.append(behind(web, *row))
        assert web.put(deeds[-1]) == "let", deeds[-1]
    return deeds


def rows_of_three_branches():
    """A web of 17 names that are all let in, with three ends."""
    ranks = (((ANN, 100), (BOB, 50), (CID, 60)), (("call", 10), ("say", 0)))
    rows = [(("n", 1), "seat", ANN, ANN, "in", ("n", 0)), (("n", 2), "ranks", ANN, "", ranks, ("n", 1)),
            (("n", 3), "door", ANN, "", "open", ("n", 2))]
    for name, who in ((("n", 4), BOB), (("e", 0), CID), (("e", 1), DORA), (LAST_SEAT, EVE)):
        rows.append((name, "seat", who, who, "in", rows[-1][0]))
    for number, who in enumerate((BOB, CID, EVE)):
        said, ranked = (who.split("@")[1], 10), ("n", 20 + number)
        rows.append((said, "say", who, "", "hey", LAST_SEAT))
        rows.append((ranked, "ranks", ANN, "", (((ANN, 100), (BOB, 50 + number)), ()), said))
        rows.append((("n", 30 + number), "say", ANN, "", "no", ranked))
    return rows


DEEDS = grown(rows_of_three_branches())
ENDS = [("n", 30), ("n", 31), ("n", 32)]
SAYS = [("e", 10), ("n", 10), ("w", 10)]


def web_of(deeds, gone=()):
    """A web that is made anew of deeds, with words let go."""
    web = Web(FIRST_DEED)
    for one in deeds:
        web.put(one)
    web.let_go(list(gone))
    return web


def things_told(web):
    """All that a web tells that is a list or a dict, with what was asked."""
    told = [(question, getattr(web, question)()) for question in PLAIN]
    names = web.names()
    told += [("both", web.both(name)) for name in names]
    let = [name for name in names if web.stand(name) == "let"]
    return told + [(question, name, getattr(web, question)(name)) for name in let for question in OF_NAMES]


def all_told(web):
    """All that a web tells, as a text, so that the order of keys counts."""
    names = web.names()
    return repr([things_told(web), len(web), [(web.stand(name), web.why(name)) for name in names]])


def spoil(thing):
    """Changes a list or a dict that was told."""
    if isinstance(thing, dict):
        for key in list(thing)[::2]:
            thing[key] = ("zz", 9)
        thing[("seat", "zed@zz")] = ("zz", 8)
    else:
        thing.reverse()
        thing.append(("zz", 9))


def spoil_all(web):
    """Changes all that a web tells."""
    for row in things_told(web):
        spoil(row[-1])


class AskedAgain(unittest.TestCase):
    def setUp(self):
        self.web = web_of(DEEDS)
        self.assertEqual((len(self.web), self.web.ends(), self.web.may_go()), (17, ENDS, []))
        self.assertEqual({self.web.stand(name) for name in self.web.names()}, {"let"})

    def assert_told(self, web, deeds, gone=()):
        """Sees to it that a web tells what one tells that is made anew, each time, whatever is done to what it told."""
        told = all_told(web_of(deeds, gone))
        for again in range(3):
            self.assertEqual(all_told(web), told)
            spoil_all(web)
        self.assertEqual(all_told(web.twin()), told)
        self.assertEqual(web, web_of(deeds, gone))

    def test_the_web_itself(self):
        self.assert_told(self.web, DEEDS)
        slow = told_of_slow(SlowWeb(FIRST_DEED, DEEDS))
        self.assertEqual((self.web.now(), self.web.paper(), self.web.soft()), (slow["now"], slow["paper"], slow["soft"]))
        let = self.web.names()
        for question in OF_NAMES:
            self.assertEqual([getattr(self.web, question)(name) for name in let], slow[question])
        states = [self.web.behind(name) for name in self.web.ends()]
        self.assertEqual(state_by(self.web.hall(), states, self.web.paper()), self.web.now())
        self.assertTrue(lets_made(self.web.hall(), states, self.web.paper()))

    def test_what_is_told_is_new_each_time(self):
        for one, two in zip(things_told(self.web), things_told(self.web)):
            self.assertEqual(one, two)
            self.assertIsNot(one[-1], two[-1])
        for question in OF_NAMES:
            for name in self.web.names():
                told = getattr(self.web, question)(name)
                spoil(told)
                self.assertNotEqual(getattr(self.web, question)(name), told)

    def test_one_question_changes_no_other_answer(self):
        # Each is asked alone, and first: what it found along is told as if it had been asked for.
        for question in PLAIN:
            web = web_of(DEEDS)
            spoil(getattr(web, question)())
            self.assert_told(web, DEEDS)
        for question in OF_NAMES:
            web = web_of(DEEDS)
            for name in web.names():
                spoil(getattr(web, question)(name))
            self.assert_told(web, DEEDS)

    def test_the_order_of_keys(self):
        for again in range(2):
            for name in self.web.names():
                ahead, key = self.web.ahead(name), self.web.deed(name)[1:4:2]
                self.assertEqual(list(ahead), sorted(ahead))
                others = [other for other in sorted(ahead) if other != key]
                keyed = key[0] not in ("say", "strike")
                self.assertEqual(list(self.web.behind(name)), others + [key] if keyed else others)
            self.assertEqual(list(self.web.now()), sorted(self.web.now()))
            self.assertEqual(list(self.web.hall()), self.web.names())

    def test_after_a_deed_was_put(self):
        news = [
            behind(self.web, ("e", 11), "say", CID, "", "oh", ("n", 31)),
            behind(self.web, ("n", 40), "seat", ANN, EVE, "barred", ("n", 30)),
            behind(self.web, ("n", 41), "ranks", ANN, "", (((ANN, 100),), (("say", 60),)), ("n", 32)),
            behind(self.web, ("n", 42), "door", ANN, "", "asked", LAST_SEAT),
        ]
        deeds = list(DEEDS)
        self.assert_told(self.web, deeds)
        for one in news:
            deeds.append(one)
            self.assertEqual(self.web.put(one), "let")
            self.assert_told(self.web, deeds)
        meet = (("n", 50), "say", ANN, "", "well", tuple(self.web.ends()), ())
        meet = meet[:6] + (leave_for(self.web.now(), "say", ANN, "", "well"),)
        self.assertEqual((self.web.put(meet), self.web.ends()), ("let", [("n", 50)]))
        self.assert_told(self.web, deeds + [meet])

    def test_after_a_deed_was_put_that_is_not_let_in(self):
        waits = (("w", 20), "say", EVE, "", "oh", (("w", 19),), (("n", 0), ("n", 2), LAST_SEAT))
        barred = behind(self.web, ("w", 30), "door", EVE, "", "open")
        self.assert_told(self.web, DEEDS)
        self.assertEqual(self.web.put(waits), "waits")
        self.assertEqual(self.web.missing(), [("w", 19)])
        self.assert_told(self.web, DEEDS + [waits])
        self.assertEqual(self.web.put(barred), "barred")
        self.assert_told(self.web, DEEDS + [waits, barred])
        comes = behind(self.web, ("w", 19), "say", EVE, "", "ah")
        self.assertEqual((self.web.put(comes), self.web.stand(("w", 20))), ("let", "let"))
        self.assert_told(self.web, DEEDS + [waits, barred, comes])

    def test_after_a_name_became_a_twin(self):
        for name in [one[0] for one in DEEDS]:
            web = web_of(DEEDS)
            self.assert_told(web, DEEDS)
            other = altered(web.deed(name), after=(("n", 0), ("w", 99)))
            self.assertEqual(web.put(other), "barred")
            self.assert_told(web, DEEDS + [other])
            self.assertEqual(web.missing(), [("w", 99)])
            for question in OF_NAMES:
                with self.assertRaises(NoState):
                    getattr(web, question)(name)
            # A third one changes nothing.
            self.assertEqual(web.put(altered(other, after=(("n", 0),))), "barred")
            self.assert_told(web, DEEDS + [other])

    def joined(self):
        """The web with its ends joined: so the words of its says may go."""
        meet = (("n", 50), "door", ANN, "", "asked", tuple(ENDS), leave_for(self.web.now(), "door", ANN, "", "asked"))
        self.assertEqual(self.web.put(meet), "let")
        return DEEDS + [meet]

    def test_after_words_were_let_go_and_after_they_came_back(self):
        deeds = self.joined()
        self.assert_told(self.web, deeds)
        self.assertEqual(self.web.may_go(), sorted(SAYS + ENDS))
        for at, name in enumerate(SAYS):
            self.web.let_go([name])
            self.assertEqual((self.web.deed(name)[4], self.web.hall()[name][4]), ("", ""))
            self.assertEqual(self.web.may_go(), sorted(SAYS[at + 1:] + ENDS))
            self.assert_told(self.web, deeds, SAYS[:at + 1])
        for at, name in enumerate(SAYS):
            said = [one for one in deeds if one[0] == name][0]
            self.assertEqual(self.web.put(altered(said, body="")), "let")
            self.assert_told(self.web, deeds, SAYS[at:])
            self.assertEqual(self.web.put(said), "let")
            self.assertEqual((self.web.deed(name), self.web.hall()[name]), (said, said))
            self.assert_told(self.web, deeds, SAYS[at + 1:])
        self.web.let_go(tuple(SAYS))
        self.assert_told(self.web, deeds, SAYS)
        # Other words than those that were let go.
        others = [altered(one, body="hm") if one[0] in SAYS else one for one in deeds]
        for one in others:
            self.assertEqual(self.web.put(one), "let")
        self.assert_told(self.web, others)

    def test_after_what_had_let_its_words_go_became_a_twin(self):
        deeds = self.joined()
        self.web.let_go([("n", 10)])
        self.assert_told(self.web, deeds, [("n", 10)])
        said = [one for one in deeds if one[0] == ("n", 10)][0]
        other = altered(said, after=(("n", 4),))
        self.assertEqual((self.web.put(other), self.web.put(said)), ("barred", "barred"))
        self.assert_told(self.web, deeds + [other])

    def test_after_what_is_refused(self):
        deeds = self.joined()
        told = all_told(self.web)
        for name in [("n", 0), ("n", 1), LAST_SEAT, ("n", 50), ("zz", 1), None, [], ("n", True)]:
            for names in ([name], [("n", 10), name], (("n", 10), ("n", 10))):
                with self.assertRaises(NoGoing):
                    self.web.let_go(names)
                self.assertEqual(all_told(self.web), told)
        with self.assertRaises(NoGoing):
            self.web.let_go(None)
        with self.assertRaises(Twin):
            self.web.put(altered(FIRST_DEED, who=BOB))
        with self.assertRaises(NoDeed):
            self.web.put(altered(DEEDS[0], body="hey"))
        for question in OF_NAMES:
            for name in (("n", 99), ("n", True), ("n", 1.0), ["n", 1], None):
                with self.assertRaises(NoName):
                    getattr(self.web, question)(name)
        self.assertEqual(all_told(self.web), told)
        self.assert_told(self.web, deeds)

    def test_where_it_is_full(self):
        deeds = DEEDS + [(("zz", number), "begin", "a@zz", "", (1, None), (), ()) for number in range(MOST - 17)]
        web = web_of(deeds)
        self.assert_told(web, deeds)
        with self.assertRaises(Full):
            web.put(behind(web, ("w", 40), "say", EVE, "", "oh"))
        self.assert_told(web, deeds)

    def test_deeds_and_words_come_and_go_by_chance(self):
        for seed in range(12):
            first, deeds = chance_deeds(seed, 30, 0.3)
            web, chance = Web(first), random.Random(seed)
            for at, one in enumerate(deeds):
                web.put(one)
                if chance.random() < 0.3:
                    web.let_go([name for name in web.may_go() if chance.random() < 0.5])
                told = all_told(web)
                spoil_all(web)
                self.assertEqual(all_told(web), told)
                slow = SlowWeb(first, deeds[:at + 1])
                now, paper = slow.made_now()
                self.assertEqual((web.now(), web.paper(), web.ends()), (now, paper, slow.ends()))
                for name in slow.hall:
                    self.assertEqual((web.ahead(name), web.behind(name)), (slow.aheads[name], slow.behind(name)))


class TwinsAskedAgain(unittest.TestCase):
    def test_a_twin_tells_its_own(self):
        # Whichever of the two was asked, and whichever changes then, the other one tells what it told.
        for asked in range(4):
            for changing in (0, 1):
                web = web_of(DEEDS)
                webs = [web, web.twin()]
                for at in (0, 1):
                    if asked & 1 << at:
                        spoil_all(webs[at])
                one = behind(web, ("n", 40), "seat", ANN, EVE, "barred", ("n", 30))
                self.assertEqual(webs[changing].put(one), "let")
                self.assertEqual(all_told(webs[changing]), all_told(web_of(DEEDS + [one])))
                self.assertEqual(all_told(webs[1 - changing]), all_told(web_of(DEEDS)))
                other = behind(web, ("n", 40), "door", ANN, "", "asked", ("n", 30))
                self.assertEqual(webs[1 - changing].put(other), "let")
                self.assertEqual(all_told(webs[1 - changing]), all_told(web_of(DEEDS + [other])))
                self.assertEqual(all_told(webs[changing]), all_told(web_of(DEEDS + [one])))

    def test_twins_of_twins(self):
        web = web_of(DEEDS)
        webs = [web.twin(), web.twin().twin(), web, web.twin()]
        news = [behind(web, ("w", 40 + number), "say", EVE, "", "oh", ("n", 30)) for number in range(4)]
        for one, each in zip(news, webs):
            self.assertEqual([all_told(other) for other in webs].count(all_told(web_of(DEEDS))),
                             4 - news.index(one))
            each.put(one)
        for one, each in zip(news, webs):
            self.assertEqual(all_told(each), all_told(web_of(DEEDS + [one])))

    def test_words_of_twins(self):
        web = web_of(DEEDS)
        meet = (("n", 50), "door", ANN, "", "asked", tuple(ENDS), leave_for(web.now(), "door", ANN, "", "asked"))
        deeds = DEEDS + [meet]
        web.put(meet)
        twin = web.twin()
        spoil_all(twin)
        web.let_go(SAYS)
        self.assertEqual((all_told(web), all_told(twin)), (all_told(web_of(deeds, SAYS)), all_told(web_of(deeds))))
        third = web.twin()
        for one in deeds:
            web.put(one)
        self.assertEqual((all_told(web), all_told(third)), (all_told(web_of(deeds)), all_told(web_of(deeds, SAYS))))
        self.assertTrue(web == twin == third)

    def test_twins_that_change_in_turn(self):
        for seed in range(8):
            first, deeds = chance_deeds(seed, 30, 0.3)
            chance = random.Random(seed)
            webs = [(Web(first), [])]
            for one in deeds:
                if chance.random() < 0.2 and len(webs) < 4:
                    web, known = chance.choice(webs)
                    webs.append((web.twin(), list(known)))
                web, known = chance.choice(webs)
                web.put(one)
                known.append(one)
                for web, known in webs:
                    anew = Web(first)
                    for other in known:
                        anew.put(other)
                    self.assertEqual(all_told(web), all_told(anew))


def ask_all(web):
    """Asks all that is found from what is let in."""
    web.now(), web.paper(), web.soft(), web.may_go()
    for name in web.names():
        web.ahead(name), web.behind(name), web.past(name)


class Steps(unittest.TestCase):
    def assert_fewer(self, ask):
        """Sees to it that a question takes half of the steps or less where it is asked again."""
        web = web_of(DEEDS)
        first, again = steps_of(lambda: ask(web)), steps_of(lambda: ask(web))
        self.assertLessEqual(again * 2, first)
        # A twin tells what the web found, as long as neither changes.
        twin, third = web.twin(), web.twin()
        self.assertEqual((steps_of(lambda: ask(twin)), steps_of(lambda: ask(third))), (again, again))
        web.put(behind(web, ("w", 40), "say", EVE, "", "oh", ("n", 30)))
        self.assertGreater(steps_of(lambda: ask(web)), again * 2)
        self.assertEqual(steps_of(lambda: ask(twin)), again)

    def test_asked_again(self):
        self.assert_fewer(lambda web: web.now())
        self.assert_fewer(lambda web: web.paper())
        self.assert_fewer(lambda web: web.soft())
        self.assert_fewer(lambda web: web.may_go())
        self.assert_fewer(ask_all)

    def test_states_and_pasts_asked_again(self):
        # These take few steps as it is: most of what is left looks whether the thing is a name that is let in.
        for question in OF_NAMES:
            web = web_of(DEEDS)
            for name in web.names():
                ask = getattr(web, question)
                first, again = steps_of(lambda: ask(name)), steps_of(lambda: ask(name))
                self.assertLess(again, first)
                self.assertLess(again, 200)

    def test_what_is_refused_forgets_nothing(self):
        web = web_of(DEEDS)
        all_told(web)
        again = steps_of(lambda: all_told(web))
        for names in ([("n", 1)], None, [("n", 30)]):
            with self.assertRaises(NoGoing):
                web.let_go(names)
        web.put(DEEDS[3])
        with self.assertRaises(Twin):
            web.put(altered(FIRST_DEED, who=BOB))
        self.assertEqual(steps_of(lambda: all_told(web)), again)


if __name__ == "__main__":
    unittest.main()

"""[19], [22] and [23], with [2]: small worlds made, woven and looked at by their webs, and one that is told 300 names.

No clock is asked: the steps that Python does are counted.
"""

import unittest

from branchedhall.errors import Full, NoHouse, NoRow, Twin
from branchedhall.webs import MOST, Web
from branchedhall.worlds import World
from tests.halls import BEGIN, seat
from tests.samples import ODD_THINGS, altered
from tests.steps import steps_of
from tests.stories import told_of

WHO = "p@a"
FIRST, SAT, SAID = ("a", 0), ("a", 1), ("a", 2)
FIRST_DEED = (FIRST, "begin", WHO, "", (1, None), (), ())
SIT = (SAT, "seat", WHO, WHO, "in", (FIRST,), (FIRST,))
SAY = (SAID, "say", WHO, "", "hear", (SAT,), (FIRST, SAT))
HERE = {BEGIN: FIRST, seat(WHO): SAT}

ROWS = [("do", "a", WHO, "seat", WHO, "in"), ("send", "a", "b")]
TOLD = [SAT, ["let", "let"]]
MORE = [("do", "a", WHO, "say", "", "hear"), ("some", "a", "b", 300), ("fetch", "b", "a"), ("some", "a", "b", 0)]
MORE_TOLD = [SAID, ["let"], [], []]


def looks(web):
    """What is looked at of a web: names, the state now, the ends; as a text, so that the order of keys counts."""
    return repr((web.names(), web.now(), web.ends()))


def all_looks(world):
    """What each house's web tells, and all of it that is told at once."""
    return [(looks(world.web(house)), told_of(world.web(house))) for house in world.houses()]


def woven():
    """A world of two houses in which all rows were woven."""
    world = World(["a", "b"], WHO)
    world.weave(ROWS)
    world.weave(MORE)
    return world


class Small(unittest.TestCase):
    def test_what_each_row_tells(self):
        for at in range(3):
            world = World(["a", "b"], WHO)
            for house in "ab":
                web = world.web(house)
                self.assertEqual((web.names(), web.now(), web.ends()), ([FIRST], {BEGIN: FIRST}, [FIRST]))
                self.assertEqual(web, Web(FIRST_DEED))
            self.assertEqual((world.houses(), world.is_one()), (["a", "b"], True))
            self.assertEqual(world.weave(ROWS), TOLD)
            for house in "ab":
                web = world.web(house)
                self.assertEqual((web.names(), web.now(), web.ends()), ([FIRST, SAT], HERE, [SAT]))
                self.assertEqual((list(web.now()), web.deed(SAT)), ([BEGIN, seat(WHO)], SIT))
            self.assertEqual(world.weave(MORE), MORE_TOLD)
            for house in "ab":
                web = world.web(house)
                self.assertEqual((web.names(), web.now(), web.ends()), ([FIRST, SAT, SAID], HERE, [SAID]))
                self.assertEqual((web.deed(SAID), web.paper(), web.soft(), web.may_go()), (SAY, [], [], []))
            self.assertIs(world.is_one(), True)

    def test_webs_row_by_row(self):
        # What a house doesn't know yet its web doesn't tell, whichever was looked at ahead of it.
        world = World(["a", "b"], WHO)
        many = []
        for row in ROWS + MORE:
            world.weave([row])
            many.append((len(world.web("a")), len(world.web("b"))))
            self.assertIs(world.is_one(), True if many[-1] != (2, 1) else False)
        self.assertEqual(many, [(2, 1), (2, 2), (3, 2), (3, 3), (3, 3), (3, 3)])

    def test_logs(self):
        world = woven()
        self.assertEqual(world.homes["a"].log(), [])
        self.assertEqual(world.homes["b"].log(), [("open", 1), ("shut", 2), ("open", 2), ("shut", 3), ("open", 3),
                                                  ("shut", 3), ("open", 3), ("shut", 3)])
        world.weave([("send", "b", "a"), ("lie", "a", None), ("lie", "a", altered(SAY, name=("a", 7)))])
        self.assertEqual(world.homes["a"].log(), [("open", 3), ("shut", 3), ("open", 3), ("shut", 3), ("open", 3),
                                                  ("shut", 4)])

    def test_logs_where_no_name_is_new(self):
        world = woven()
        web = world.web("b")
        self.assertEqual(world.weave([("lie", "b", altered(SAY, body="heard")), ("lie", "b", SAY)]), [["barred"]] * 2)
        self.assertEqual(world.homes["b"].log()[-4:], [("open", 3), ("shut", 3)] * 2)
        self.assertEqual((web.stand(SAID), world.web("b").stand(SAID)), ("let", "barred"))

    def test_numbers_of_names_that_another_house_heard_of(self):
        world = World(["a", "b"], WHO)
        world.weave([ROWS[0], ("do", "a", WHO, "door", "", "open"), ROWS[1]])
        lies = [altered(SAY, name=("b", 5), who="q@b"), altered(SAY, name=("a", 7))]
        self.assertEqual(world.weave([("lie", "a", lies[0]), ("lie", "b", lies[1])]), [["barred"], ["let"]])
        self.assertEqual(world.weave([("do", "b", "q@b", "seat", "q@b", "in"), ("do", "a", WHO, "say", "", "x")]),
                         [("b", 0), ("a", 3)])
        self.assertEqual(world.weave([("send", "a", "b"), ("send", "b", "a")])[1].count("let"), 6)
        self.assertEqual(world.weave([("do", "b", "q@b", "say", "", "x"), ("do", "a", WHO, "say", "", "x")]),
                         [("b", 6), ("a", 8)])

    def test_two_worlds_and_webs_that_are_changed(self):
        # Into each of the told webs in turn a deed is put, of each sort.
        news = [(altered(SAY, name=("a", 9), after=(SAID,)), "let"), (altered(SAY, name=("a", 9), after=(("b", 4),)), "waits"),
                (altered(SIT, name=("b", 1), who="q@b", about="q@b"), "barred"), (altered(SAY, body="heard"), "barred")]
        for one, stands in news:
            for at in range(4):
                worlds = [woven(), woven()]
                told = [all_looks(world) for world in worlds]
                self.assertEqual(told[0], told[1])
                webs = [world.web(house) for world in worlds for house in "ab"]
                texts = [looks(web) for web in webs]
                self.assertEqual(webs[at].put(one), stands)
                self.assertEqual([all_looks(world) for world in worlds], told)
                self.assertEqual([looks(web) for web in webs[:at] + webs[at + 1:]], texts[:at] + texts[at + 1:])
                self.assertEqual((webs[at].stand(one[0]), one in webs[at].both(one[0])), (stands, True))
                anew = Web(FIRST_DEED)
                for other in (SIT, SAY, one):
                    anew.put(other)
                self.assertEqual(told_of(webs[at]), told_of(anew))

    def test_what_was_told_is_changed(self):
        world = woven()
        told = all_looks(world)
        for house in "ab":
            web = world.web(house)
            web.names().append(("zz", 9))
            web.now().clear()
            web.ends().clear()
            web.paper().append(None)
            web.hall().clear()
            web.behind(SAT)[BEGIN] = SAID
            self.assertEqual(all_looks(world), told)
            self.assertEqual(looks(web), told[0][0])

    def test_webs_that_were_told_ahead_of_a_row(self):
        # The worlds go on; what was told ahead of that tells what it told.
        worlds, webs, texts = [World(["a", "b"], WHO), World(["a", "b"], WHO)], [], []
        for row in ROWS + MORE:
            for world in worlds:
                for house in "ab":
                    webs.append(world.web(house))
                    texts.append((looks(webs[-1]), told_of(webs[-1])))
                world.weave([row])
        self.assertEqual([(looks(web), told_of(web)) for web in webs], texts)
        self.assertEqual(all_looks(worlds[0]), all_looks(woven()))
        self.assertEqual(all_looks(worlds[1]), all_looks(woven()))

    def test_one_house_goes_on(self):
        world = World(["a", "b", "c"], WHO)
        webs = [world.web(house) for house in "abc"]
        self.assertEqual(world.weave([("do", "a", WHO, "seat", WHO, "in"), ("lie", "b", altered(SIT, body="out"))]),
                         [SAT, ["barred"]])
        self.assertEqual([world.web(house).names() for house in "abc"], [[FIRST, SAT], [FIRST, SAT], [FIRST]])
        self.assertEqual([world.web(house).why(SAT) for house in "ab"], [None, ("leave", "seat")])
        self.assertEqual([web.names() for web in webs], [[FIRST]] * 3)
        self.assertEqual(world.weave([("send", "a", "b"), ("send", "a", "c")]), [["let", "barred"], ["let", "let"]])
        self.assertEqual([world.web(house).why(SAT) for house in "abc"], [None, ("twin", ""), None])

    def test_rows_that_are_refused(self):
        world = woven()
        told = all_looks(world)
        webs = [world.web(house) for house in "ab"]
        for row in (("do", "b", WHO, "say", "", "x"), ("do", "a", WHO, "begin", "", (1, None)),
                    ("do", "a", "q@a", "say", "", "x"), ("do", "a", WHO, "say", "", 5), ("lie", "b", None),
                    ("lie", "a", altered(FIRST_DEED, body=(2, None))), ("lie", "a", SAY)):
            self.assertNotIn(world.weave([row])[0], (SAID, None))
            self.assertEqual(all_looks(world), told)
        for row in (None, ("nod", "a"), ("do", "c", WHO, "say", "", "x"), ("do", "a", WHO, "say", ""), ("send", "a"),
                    ("some", "a", "b", 301), ("some", "a", "b", True), ("lie", "c", SAY), ["send", "a", "b"]):
            with self.assertRaises(NoRow) as caught:
                world.weave([row])
            self.assertEqual((caught.exception.number, all_looks(world)), (0, told))
        for thing in ODD_THINGS + ("c", "A", ("a",)):
            with self.assertRaises(NoRow):
                world.weave([("send", "a", thing)])
            with self.assertRaises(NoHouse):
                world.web(thing)
        for web in webs:
            with self.assertRaises(Twin):
                web.put(altered(FIRST_DEED, body=(2, None)))
        self.assertEqual(([looks(web) for web in webs], all_looks(world)), ([told[0][0], told[1][0]], told))

    def test_what_one_house_is_told_by_another_is_looked_at_there(self):
        # A deed that is known where it comes from may wait, be barred or make a twin where it goes to.
        world = woven()
        late = altered(SAY, name=("a", 5), after=(("a", 4),))
        wrong = altered(SIT, name=("b", 3), who="q@b", about="q@b")
        world.weave([("lie", "a", late), ("lie", "a", wrong)])
        self.assertEqual(world.weave([("some", "a", "b", 300), ("send", "a", "b")]),
                         [["barred", "waits"], ["let", "let", "let", "waits", "barred"]])
        self.assertEqual(world.web("b").missing(), [("a", 4)])
        self.assertEqual(world.weave([("lie", "a", altered(SAY, name=("a", 4), after=(SAID,))), ("fetch", "b", "a")]),
                         [["let"], ["let"]])
        self.assertEqual(all_looks(world)[0], all_looks(world)[1])


class Great(unittest.TestCase):
    def setUp(self):
        self.lies = [(("a", number), "say", WHO, "", "x", (("a", number - 1),), (FIRST, SAT)) for number in range(2, MOST)]

    def test_what_each_row_tells(self):
        world = World(["a"], WHO)
        self.assertEqual(world.weave([ROWS[0]]), [SAT])
        seen = []
        for number, one in enumerate(self.lies, 2):
            self.assertEqual(world.weave([("lie", "a", one)]), [["let"]])
            web = world.web("a")
            self.assertEqual((len(web), web.ends(), web.now()), (number + 1, [one[0]], HERE))
            self.assertEqual((web.ahead(one[0]), web.behind(one[0]), web.why(one[0])), (HERE, HERE, None))
            seen.append(web)
        for number, web in enumerate(seen, 2):
            names = [("a", other) for other in range(number + 1)]
            self.assertEqual((web.names(), web.past(names[-1])), (names, names))
        self.assertEqual(world.weave([("lie", "a", self.lies[150]), ("lie", "a", altered(SAY, name=("a", 300)))]),
                         [["let"], ["full"]])
        with self.assertRaises(Full):
            world.weave([("do", "a", WHO, "say", "", "x")])
        self.assertEqual(told_of(world.web("a")), told_of(seen[-1]))

    def test_all_rows_at_once(self):
        world = World(["a"], WHO)
        rows = [ROWS[0], *[("lie", "a", one) for one in self.lies]]
        self.assertEqual(world.weave(rows), [SAT] + [["let"]] * 298)
        self.assertEqual(world.weave(rows[1:]), [["let"]] * 298)
        other = Web(FIRST_DEED)
        for one in [SIT, *self.lies]:
            self.assertEqual(other.put(one), "let")
        self.assertEqual(told_of(world.web("a")), told_of(other))

    def test_each_row_is_looked_at(self):
        # One that is no deed, or that has no leave, is found among all that are as they should be.
        world = World(["a"], WHO)
        world.weave([ROWS[0], *[("lie", "a", one) for one in self.lies[:100]]])
        ahead = self.lies[99][0]
        base = altered(self.lies[100], name=("a", 200))
        told = told_of(world.web("a"))
        for thing, stands in ((altered(base, after=(("A", 1),)), "none"), (altered(base, leave=(SAT, FIRST)), "none"),
                              (altered(base, name=("b", 200)), "none"), (altered(base, body="x\n"), "none"),
                              (altered(base, who="p@a@a"), "none"), (altered(base, after=(("a", True),)), "none"),
                              (altered(base, about="q@a"), "none"), (altered(base, kind="nod"), "none")):
            self.assertEqual(world.weave([("lie", "a", thing)]), [[stands]], thing)
            self.assertEqual(told_of(world.web("a")), told)
        for number, (change, why) in enumerate((
                ({"who": "q@a"}, ("leave", "other")), ({"leave": (FIRST,)}, ("leave", "seat")),
                ({"leave": (FIRST, SAT, ahead)}, ("leave", "twice")),
                ({"after": (FIRST,)}, ("past", "leave")), ({"kind": "strike", "body": ("a", 250)}, ("past", "strike")),
                ({"kind": "door", "body": "open", "who": "q@a"}, ("leave", "other")),
                ({"kind": "begin", "body": (1, None), "after": (), "leave": ()}, ("here", "begun")))):
            one = altered(base, name=("a", 250 + number), **change)
            self.assertEqual(world.weave([("lie", "a", one)]), [["barred"]], change)
            self.assertEqual(world.web("a").why(one[0]), why, change)

    def test_leave_behind_a_change(self):
        # What a deed names gave it leave once, but the state ahead of it has another one for one of the keys, or more.
        world = World(["a"], WHO)
        world.weave([ROWS[0], ("do", "a", WHO, "seat", WHO, "out")])
        late = (("a", 5), "say", WHO, "", "x", (("a", 2),), (FIRST, SAT))
        self.assertEqual(world.weave([("lie", "a", late)]), [["barred"]])
        self.assertEqual(world.web("a").why(("a", 5)), ("here", "seat"))
        self.assertEqual(world.weave([("do", "a", WHO, "seat", WHO, "in"),
                                      ("do", "a", WHO, "ranks", "", (((WHO, 100),), (("say", 100),))),
                                      ("do", "a", WHO, "ranks", "", (((WHO, 60),), (("say", 100),)))]),
                         [("a", 6), ("a", 7), ("a", 8)])
        world.weave([("lie", "a", (("a", 9), "say", WHO, "", "x", (("a", 7),), (FIRST, ("a", 6)))),
                     ("lie", "a", (("a", 10), "say", WHO, "", "x", (("a", 8),), (FIRST, ("a", 6))))])
        web = world.web("a")
        self.assertEqual((web.why(("a", 9)), web.why(("a", 10))), (None, ("here", "rank")))


class Steps(unittest.TestCase):
    def test_a_web_is_told_without_going_through_it(self):
        world = World(["a"], WHO)
        few = steps_of(lambda: world.web("a"))
        world.weave([("lie", "a", one) for one in [SIT, *[altered(SAY, name=("a", number)) for number in range(2, MOST)]]])
        self.assertEqual(len(world.web("a")), 300)
        self.assertEqual(steps_of(lambda: world.web("a")), few)
        # So it is in a world that goes on.
        world.weave([("lie", "a", altered(SAY, body="heard"))])
        self.assertEqual(steps_of(lambda: world.web("a")), few)

    def test_a_further_house_takes_fewer_steps_than_the_first(self):
        one, two, six = [steps_of(lambda: World(houses, WHO)) for houses in (["a"], ["a", "b"], list("abcdef"))]
        self.assertLess((two - one) * 3, one)
        self.assertLess((six - one) * 3, one * 5)

    def test_webs_of_worlds_that_stay_as_they_are(self):
        world = woven()
        first = steps_of(lambda: looks(world.web("a")))
        self.assertLess(steps_of(lambda: looks(world.web("a"))), first)
        # What the house finds itself its web needn't find.
        other = woven()
        other.is_one()
        self.assertLess(steps_of(lambda: other.web("b").now()) * 2, first)


if __name__ == "__main__":
    unittest.main()

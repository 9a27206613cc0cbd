"""[22], and [2] of it: houses, what they write, hear, ask and answer, and their logs."""

import random
import unittest

from branchedhall.errors import Barred, Busy, Full, NoBegin, NoDeed, NoHall, NoHouse
from branchedhall.houses import House
from branchedhall.leave import leave_for
from branchedhall.webs import Web
from tests.halls import AMY, BOB, CYD, DAN, FIRST, Unchanged, deed
from tests.samples import EDGE_DEEDS, ODD_THINGS, ONE_OF_EACH, altered
from tests.stories import Story, chance_deeds, gathered, told_of

EVE = "eve@fir"


def ash():
    """The house ash, in whose hall amy is, with the door open."""
    house = House("ash")
    house.begin(AMY)
    house.do(AMY, "seat", about=AMY, body="in")
    house.do(AMY, "door", body="open")
    return house


def told_of_house(house):
    """All that a house tells."""
    return told_of(house.web()), house.log(), house.called(), house.asks()


def deeds_of(house):
    """All deeds that a house knows."""
    return house.answers(house.web().names())


def house_with(name, deeds, first=None):
    """A house that was told of a begin, and heard deeds."""
    house = House(name)
    house.told(first or deed(FIRST, "begin", AMY))
    house.hear(deeds)
    return house


class Called(unittest.TestCase):
    def test_words(self):
        for name in ("a", "ash", "abcdefgh", "none"):
            self.assertEqual(House(name).called(), name)
            self.assertEqual(House(name=name).called(), name)

    def test_no_houses(self):
        for thing in ODD_THINGS + (0, "", "Ash", "abcdefghi", "a b", "a@b", ("ash",), "ash:0"):
            with self.assertRaises(NoHouse) as caught:
                House(thing)
            self.assertIs(caught.exception.house, thing)


class Beginning(unittest.TestCase):
    def test_begin(self):
        for rules in (1, 2):
            house = House("ash")
            first = house.begin(AMY, rules=rules)
            self.assertEqual(first, (FIRST, "begin", AMY, "", (rules, None), (), ()))
            self.assertEqual(house.web(), Web(first))
            self.assertEqual(house.log(), [])
        self.assertEqual(House("ash").begin(person=CYD), (FIRST, "begin", CYD, "", (1, None), (), ()))
        with self.assertRaises(TypeError):
            House("ash").begin(AMY, 2)

    def test_told(self):
        for first in [one for one in EDGE_DEEDS if one[1] == "begin"]:
            for name in ("ash", "birch"):
                house = House(name)
                self.assertIsNone(house.told(first))
                self.assertEqual(house.web(), Web(first))
                other = House(name)
                other.told(first=first)
                self.assertEqual(other.web(), house.web())

    def test_no_deed(self):
        rows = [(5, 1, "who"), (None, 1, "who"), ("amy", 1, "who"), ("amy@birch", 1, "house"), (AMY, 0, "body"),
                (AMY, 3, "body"), (AMY, True, "body"), (AMY, "1", "body"), (AMY, None, "body"), (5, 5, "who"),
                ("amy@birch", 5, "body"), ([AMY], 1, "who")]
        for person, rules, part in rows:
            house = House("ash")
            with self.assertRaises(NoDeed) as caught:
                house.begin(person, rules=rules)
            self.assertEqual(caught.exception.part, part)
            with self.assertRaises(NoHall):
                house.web()
        for thing in ODD_THINGS + (0, "", ()):
            house = House("ash")
            with self.assertRaises(NoDeed) as caught:
                house.begin(thing)
            self.assertEqual(caught.exception.part, "who")
            with self.assertRaises(NoDeed) as caught:
                house.told(thing)
            self.assertIsNone(caught.exception.part)
            house.begin(AMY)

    def test_no_begin(self):
        house = House("ash")
        for one in ONE_OF_EACH[1:]:
            with self.assertRaises(NoBegin):
                house.told(one)
            with self.assertRaises(NoDeed):
                house.told(altered(one, leave=()))
        with self.assertRaises(NoHall):
            house.web()

    def test_busy(self):
        begun, told = House("ash"), House("birch")
        first = begun.begin(AMY)
        told.told(first)
        for house in (begun, told):
            before = told_of_house(house)
            # It goes ahead of whatever else is to be said.
            for ask in (lambda: house.begin(house.called() + "x@" + house.called()), lambda: house.begin(AMY),
                        lambda: house.begin(None), lambda: house.begin(AMY, rules=7), lambda: house.told(first),
                        lambda: house.told(ONE_OF_EACH[1]), lambda: house.told(None)):
                with self.assertRaises(Busy):
                    ask()
            self.assertEqual(told_of_house(house), before)


class NoHalls(unittest.TestCase):
    def test_ahead_of_all(self):
        house = House("ash")
        for ask in (lambda: house.do(AMY, "door", body="open"), lambda: house.do(None, None, about=None, body=None),
                    lambda: house.hear([]), lambda: house.hear([deed(FIRST, "begin", AMY)]), house.asks,
                    lambda: house.answers([]), lambda: house.answers([FIRST]), house.web):
            with self.assertRaises(NoHall):
                ask()
        self.assertEqual((house.log(), house.called()), ([], "ash"))
        house.begin(AMY)
        self.assertEqual(house.log(), [])


class Doing(unittest.TestCase):
    def test_each_kind(self):
        house = ash()
        rows = [("seat", BOB, "called"), ("seat", EVE, "barred"), ("seat", EVE, "out"),
                ("ranks", "", (((AMY, 100), (BOB, 50)), ())), ("door", "", "asked"), ("say", "", "good day"),
                ("say", "", ""), ("strike", "", ("ash", 8)), ("move", "", 2)]
        for number, (kind, about, body) in enumerate(rows, 3):
            web = house.web()
            done = house.do(AMY, kind, about=about, body=body)
            leave = leave_for(web.now(), kind, AMY, about, body)
            self.assertEqual(done, (("ash", number), kind, AMY, about, body, (("ash", number - 1),), leave))
            self.assertEqual((house.web().deed(done[0]), house.web().stand(done[0])), (done, "let"))
            self.assertEqual(house.web().ends(), [done[0]])
        self.assertEqual(len(house.web()), 12)
        self.assertEqual(house.log(), [])

    def test_by_names(self):
        house = ash()
        self.assertEqual(house.do(person=AMY, kind="say", body="oh")[:5], (("ash", 3), "say", AMY, "", "oh"))
        self.assertEqual(house.do(kind="seat", body="called", about=BOB, person=AMY)[:5],
                         (("ash", 4), "seat", AMY, BOB, "called"))
        for ask in (lambda: house.do(AMY, "say", "", "oh"), lambda: house.do(AMY, "say", "oh"),
                    lambda: house.do(AMY, "say")):
            with self.assertRaises(TypeError):
                ask()

    def test_numbers_at_first_and_behind_the_greatest(self):
        start = ash()
        house = house_with("birch", deeds_of(start))
        self.assertEqual(house.do(BOB, "seat", about=BOB, body="in")[0], ("birch", 0))
        self.assertEqual(house.do(BOB, "say", body="oh")[0], ("birch", 1))
        # Known are names that wait, are barred or twins, too; not those that are missing, or other houses'.
        web = house.web()
        house.hear([deed(("birch", 7), "say", BOB, after=[("birch", 900)])])
        self.assertEqual(house.do(BOB, "say", body="oh")[0], ("birch", 8))
        house.hear([deed(("birch", 20), "say", BOB, leave=[FIRST]), deed(("elm", 700), "say", DAN)])
        self.assertEqual(house.web().why(("birch", 20)), ("leave", "seat"))
        self.assertEqual(house.do(BOB, "say", body="oh")[0], ("birch", 21))
        house.hear([altered(web.deed(("birch", 1)), name=("birch", 30)),
                    altered(web.deed(("birch", 1)), name=("birch", 30), body="ah")])
        self.assertEqual(house.do(BOB, "say", body="oh")[0], ("birch", 31))

    def test_numbers_where_the_greatest_is_the_last(self):
        start = ash()
        house = house_with("birch", deeds_of(start) + [deed(("birch", 99999), "say", BOB, after=[("zz", 1)])])
        self.assertEqual(house.do(BOB, "seat", about=BOB, body="in")[0], ("birch", 0))
        self.assertEqual(house.do(BOB, "say", body="oh")[0], ("birch", 1))
        house.hear([deed(("birch", number), "say", BOB, after=[("zz", 1)]) for number in (2, 4, 5)])
        self.assertEqual([house.do(BOB, "say", body="oh")[0][1] for at in range(3)], [3, 6, 7])
        near = house_with("birch", deeds_of(start) + [deed(("birch", 99998), "say", BOB, after=[("zz", 1)])])
        self.assertEqual([near.do(BOB, "seat", about=BOB, body="in")[0][1], near.do(BOB, "say", body="")[0][1]],
                         [99999, 0])
        # Where the begin is the house's own, it has 0.
        start.hear([deed(("ash", 99999), "say", AMY, after=[("zz", 1)])])
        self.assertEqual(start.do(AMY, "say", body="oh")[0], ("ash", 3))

    def test_behind_the_ends(self):
        story = gathered()
        story.add("birch2", "move", BOB, after="ash9")
        story.add("elm2", "say", DAN, after="ash9")
        house = house_with("ash", [story.web.deed(name) for name in story.web.names()])
        done = house.do(AMY, "seat", about=EVE, body="called")
        self.assertEqual(done[5], (("birch", 2), ("elm", 2)))
        self.assertEqual(done[6], tuple(sorted([FIRST, ("ash", 1), ("ash", 9)])))
        self.assertEqual(done[0], ("ash", 10))

    def test_more_than_six_ends(self):
        story = gathered()
        story.add("ash10", "ranks", AMY, body=(((AMY, 90),), ()), after="ash9")
        for number in range(10, 16):
            story.add("birch" + str(number), "say", BOB, after="ash9")
        deeds = [story.web.deed(name) for name in story.web.names()]
        house = house_with("ash", deeds)
        self.assertEqual(len(house.web().ends()), 7)
        done = house.do(AMY, "say", body="oh")
        self.assertEqual(done[5], tuple(("birch", number) for number in range(10, 16)))
        # The first end is left out, so that its ranks deed gives no leave.
        self.assertEqual(done[6], tuple(sorted([FIRST, ("ash", 1), ("ash", 9)])))
        self.assertEqual(house.web().ends(), [("ash", 10), ("ash", 11)])

    def test_no_deed(self):
        house = ash()
        before = told_of_house(house)
        rows = [(AMY, "nod", "", "", "kind"), (AMY, None, "", "", "kind"), (None, "nod", "", "", "kind"),
                ("amy", "say", "", "oh", "who"), (5, "seat", 5, 5, "who"), (AMY, "say", AMY, "oh", "about"),
                (AMY, "seat", "", "in", "about"), (AMY, "seat", 5, 5, "about"), (AMY, "say", "", 5, "body"),
                (AMY, "say", "", "a" * 81, "body"), (AMY, "say", "", "a\nb", "body"), (BOB, "say", "", 5, "body"),
                (BOB, "say", "", "oh", "house"), (AMY, "door", "", "ajar", "body"), (AMY, "begin", "", 1, "body"),
                (AMY, "begin", AMY, (1, None), "about"), (AMY, "ranks", "", ((), ((AMY, 5),)), "body"),
                (AMY, "strike", "", ("ash", -1), "body"), (AMY, "move", "", 3, "body"), (AMY, "seat", AMY, [], "body")]
        for person, kind, about, body, part in rows:
            with self.assertRaises(NoDeed) as caught:
                house.do(person, kind, about=about, body=body)
            self.assertEqual(caught.exception.part, part)
        for thing in ODD_THINGS + (0, ()):
            for ask, part in ((lambda: house.do(thing, "say", body="oh"), "who"),
                              (lambda: house.do(AMY, thing, body="oh"), "kind"),
                              (lambda: house.do(AMY, "say", about=thing, body="oh"), "about"),
                              (lambda: house.do(AMY, "seat", about=thing, body="in"), "about"),
                              (lambda: house.do(AMY, "seat", about=AMY, body=thing), "body"),
                              (lambda: house.do(AMY, "ranks", body=thing), "body")):
                with self.assertRaises(NoDeed) as caught:
                    ask()
                self.assertEqual(caught.exception.part, part)
        self.assertEqual(told_of_house(house), before)

    def test_barred(self):
        start = ash()
        house = house_with("birch", deeds_of(start))
        rows = [("say", "", "oh", ("leave", "seat")), ("seat", EVE, "in", ("leave", "other")),
                ("seat", BOB, "out", ("leave", "seat")), ("begin", "", (1, None), ("here", "begun"))]
        for kind, about, body, why in rows:
            before = told_of_house(house)
            with self.assertRaises(Barred) as caught:
                house.do(BOB, kind, about=about, body=body)
            self.assertEqual((caught.exception.where, caught.exception.rule), why)
            self.assertEqual(told_of_house(house), before)
        house.do(BOB, "seat", about=BOB, body="in")
        for kind, about, body, why in [("door", "", "asked", ("leave", "rank")),
                                       ("strike", "", ("zz", 1), ("past", "strike")),
                                       ("strike", "", ("birch", 1), ("past", "strike")),
                                       ("strike", "", ("birch", 0), ("leave", "rank"))]:
            before = told_of_house(house)
            with self.assertRaises(Barred) as caught:
                house.do(BOB, kind, about=about, body=body)
            self.assertEqual((caught.exception.where, caught.exception.rule), why)
            self.assertEqual(told_of_house(house), before)
        # A barred deed took no number.
        self.assertEqual(house.do(BOB, "say", body="oh")[0], ("birch", 1))

    def test_full_ahead_of_barred_behind_no_deed(self):
        house = ash()
        house.hear([deed(("zz", number), "begin", "a@zz") for number in range(297)])
        self.assertEqual(len(house.web()), 300)
        before = told_of_house(house)
        for kind, body in (("say", "oh"), ("begin", (1, None)), ("strike", ("zz", 900))):
            with self.assertRaises(Full):
                house.do(AMY, kind, body=body)
        with self.assertRaises(NoDeed) as caught:
            house.do(AMY, "say", body=5)
        self.assertEqual(caught.exception.part, "body")
        with self.assertRaises(NoDeed):
            house.do(BOB, "say", body="oh")
        self.assertEqual(told_of_house(house), before)

    def test_what_waited_for_it_stands(self):
        house = ash()
        late = deed(("ash", 50), "say", AMY, after=[("ash", 3)], leave=[FIRST, ("ash", 1)])
        elm = altered(late, name=("elm", 1), who=DAN)
        self.assertEqual(house.hear([elm]), ["waits"])
        self.assertEqual(house.asks(), [("ash", 3)])
        house.do(AMY, "say", body="oh")
        self.assertEqual((house.asks(), house.web().stand(("elm", 1))), ([], "barred"))


class Hearing(unittest.TestCase):
    def test_how_each_stands(self):
        start = ash()
        deeds = deeds_of(start)
        house = House("birch")
        house.told(deeds[0])
        given = [deeds[2], deeds[1], deeds[0], altered(deeds[0], who=CYD), altered(deeds[1], body="out"), deeds[1],
                 deed(("elm", 1), "say", DAN), None, 5, deeds[:2], list(deeds[1]), deeds[1][:6]]
        with Unchanged(self, given):
            told = house.hear(given)
        self.assertEqual(told, ["waits", "let", "let", "twin", "barred", "barred", "barred"] + ["none"] * 5)
        self.assertIs(type(told), list)
        self.assertEqual(house.hear(deeds=[]), [])

    def test_one_by_one(self):
        # Each is told as it stood when it was heard, not at last.
        deeds = deeds_of(ash())
        house = House("birch")
        house.told(deeds[0])
        self.assertEqual(house.hear([deeds[2], deeds[1], deeds[2]]), ["waits", "let", "let"])

    def test_things_of_every_kind(self):
        house = ash()
        before = told_of(house.web())
        things = list(ODD_THINGS) + [0, "", (), "ash:0 begin amy@ash - 1 - -", altered(ONE_OF_EACH[4], leave=())]
        self.assertEqual(house.hear(things), ["none"] * len(things))
        self.assertEqual(told_of(house.web()), before)
        self.assertEqual(house.log(), [("open", 3), ("shut", 3)])

    def test_full(self):
        house = ash()
        deeds = [deed(("zz", number), "begin", "a@zz") for number in range(299)]
        self.assertEqual(house.hear(deeds), ["barred"] * 297 + ["full"] * 2)
        say = deed(("elm", 1), "say", DAN, after=[("zz", 0)])
        self.assertEqual(house.hear([say, None, deed(FIRST, "begin", CYD), deeds[0], deeds[298]]),
                         ["full", "none", "twin", "barred", "full"])
        self.assertEqual(house.log(), [("open", 3), ("shut", 300), ("open", 300), ("shut", 300)])

    def test_what_is_heard_is_like_what_is_put(self):
        for seed in range(10):
            first, deeds = chance_deeds(seed, 40)
            house, web = House("fir"), Web(first)
            house.told(first)
            self.assertEqual(house.hear(deeds), [web.put(one) for one in deeds])
            self.assertEqual(told_of(house.web()), told_of(web))
            self.assertEqual(house.asks(), web.missing())


class Log(unittest.TestCase):
    def test_ahead_of_and_behind_each_hearing(self):
        house = ash()
        self.assertEqual(house.log(), [])
        house.hear([])
        house.hear([deed(("elm", 1), "say", DAN), deed(("elm", 2), "say", DAN)])
        house.do(AMY, "say", body="oh")
        house.hear([deed(("elm", 1), "say", DAN), None])
        rows = [("open", 3), ("shut", 3), ("open", 3), ("shut", 5), ("open", 6), ("shut", 6)]
        self.assertEqual(house.log(), rows)
        self.assertTrue(all(type(row) is tuple for row in house.log()))

    def test_right_behind_the_begin(self):
        house, other = House("ash"), House("birch")
        other.told(house.begin(AMY))
        for one in (house, other):
            one.hear([])
            one.hear([None])
            self.assertEqual(one.log(), [("open", 1), ("shut", 1)] * 2)

    def test_asking_writes_nothing(self):
        house = ash()
        house.hear([])
        house.asks()
        house.answers([FIRST])
        house.web()
        house.called()
        self.assertEqual(house.log(), [("open", 3), ("shut", 3)])

    def test_is_the_askers_own(self):
        house = ash()
        house.hear([])
        house.log().clear()
        house.log().append(5)
        self.assertEqual(house.log(), [("open", 3), ("shut", 3)])

    def test_whatever_came_of_it(self):
        # Not even a list that breaks off leaves the log open.
        def broken():
            yield deed(("elm", 1), "say", DAN)
            raise LookupError
        house = ash()
        with self.assertRaises(LookupError):
            house.hear(broken())
        self.assertEqual(house.log(), [("open", 3), ("shut", 4)])


class AskingAndAnswering(unittest.TestCase):
    def setUp(self):
        self.house = ash()
        self.twins = [deed(("elm", 1), "say", DAN, body=body, after=[("zz", number)])
                      for number, body in ((2, "b"), (1, "a"))]
        self.waits = deed(("elm", 2), "say", DAN, after=[("zz", 5)])
        self.house.hear([*self.twins, self.waits])

    def test_asks(self):
        self.assertEqual(self.house.asks(), [("zz", 1), ("zz", 2), ("zz", 5)])
        self.house.asks().clear()
        self.assertEqual(self.house.asks(), self.house.web().missing())

    def test_answers(self):
        web = self.house.web()
        names = [("elm", 2), ("ash", 1), ("zz", 1), ("elm", 1), FIRST]
        with Unchanged(self, names):
            told = self.house.answers(names)
        self.assertEqual(told, [self.waits, web.deed(("ash", 1)), *self.twins, web.deed(FIRST)])
        self.assertIs(type(told), list)
        self.assertEqual(self.house.answers(names=names), told)
        self.house.answers(names).clear()
        self.assertEqual(self.house.answers(names), told)
        self.assertEqual(self.house.answers([]), [])

    def test_answers_of_things_of_every_kind(self):
        things = list(ODD_THINGS) + [0, "", (), "ash:0", ["ash", 0], ("ash", False), ("ash", True), ("zz", 1), (FIRST,),
                                     ("ash", 99), self.waits]
        self.assertEqual(self.house.answers(things), [])
        self.assertEqual(self.house.answers(things + [("ash", 1)] + things), [self.house.web().deed(("ash", 1))])

    def test_the_web_is_a_twin(self):
        before = told_of(self.house.web())
        web = self.house.web()
        self.assertIs(type(web), Web)
        web.put(deed(("zz", 9), "begin", "a@zz"))
        web.put(altered(web.deed(("ash", 1)), body="out"))
        self.assertEqual(told_of(self.house.web()), before)
        # A web that was told doesn't change when the house goes on.
        web = self.house.web()
        self.house.do(AMY, "say", body="oh")
        self.house.hear([deed(("zz", 9), "begin", "a@zz")])
        self.assertEqual(told_of(web), before)


class Together(unittest.TestCase):
    def test_houses_that_answer_one_another(self):
        for seed in range(8):
            first, deeds = chance_deeds(seed, 40, 0.1)
            full, late = house_with("gorse", deeds, first), House("hazel")
            late.told(first)
            chance = random.Random(seed)
            late.hear(chance.sample(deeds, len(deeds) // 3))
            while True:
                answers = full.answers(late.asks())
                if not answers:
                    break
                late.hear(answers)
            late.hear(deeds_of(full))
            self.assertEqual(told_of(late.web()), told_of(full.web()))

    def test_what_one_writes_the_other_lets_in(self):
        story = Story()
        one, two = house_with("ash", []), house_with("birch", [])
        self.assertEqual(one.web(), story.web)
        one.do(AMY, "seat", about=AMY, body="in")
        one.do(AMY, "seat", about=BOB, body="called")
        self.assertEqual(two.hear(deeds_of(one)), ["let"] * 3)
        two.do(BOB, "seat", about=BOB, body="in")
        one.do(AMY, "seat", about=BOB, body="barred")
        self.assertEqual(one.hear(deeds_of(two)), ["let"] * 4)
        self.assertEqual(one.web().paper(), [(("ash", 3), None), (("birch", 0), "barred")])
        done = one.do(AMY, "say", body="well")
        self.assertEqual(done[5], (("ash", 3), ("birch", 0)))
        self.assertEqual(two.hear([done]), ["waits"])
        self.assertEqual(two.hear(one.answers(two.asks())), ["let"])
        self.assertEqual(two.web().stand(done[0]), "let")
        with self.assertRaises(Barred) as caught:
            two.do(BOB, "say", body="oh")
        self.assertEqual((caught.exception.where, caught.exception.rule), ("leave", "seat"))


if __name__ == "__main__":
    unittest.main()

"""[20] and the end of [19], with [2] and [3] (g): words let go and brought back, equal webs, and twins of a web."""

import random
import unittest

from branchedhall.errors import Full, NoDeed, NoGoing
from branchedhall.webs import Web
from tests.halls import AMY, BOB, CYD, DAN, FIRST, Unchanged, deed
from tests.samples import ODD_THINGS, SaysYes, altered
from tests.stories import SlowWeb, Story, chance_deeds, gathered, names_of, told_of


def talk():
    """A story with says: ash10, birch10, elm10 one behind another, a strike of ash10, and a last say, ash12."""
    story = gathered()
    story.add("ash10", "say", AMY, body="good day")
    story.add("birch10", "say", BOB, body="")
    story.add("elm10", "say", DAN, body="oh")
    story.add("ash11", "strike", AMY, body=("ash", 10))
    story.add("ash12", "say", AMY, body="well")
    return story


def all_but_words(told):
    """What a web tells but for the words of its says, and what may go."""
    def bare(one):
        return one[:4] + ("",) + one[5:] if one[1] == "say" else one
    told = {key: told[key] for key in told if key != "may go"}
    told["both"] = [[bare(one) for one in deeds] for deeds in told["both"]]
    told["hall"] = {name: bare(one) for name, one in told["hall"].items()}
    return told


class MayGo(unittest.TestCase):
    def test_says_in_the_past_of_the_end(self):
        web = talk().web
        # ash12 is the end itself; one without signs may go like another one.
        self.assertEqual(web.may_go(), names_of("ash10 birch10 elm10"))

    def test_the_end_itself(self):
        story = gathered()
        self.assertEqual(story.web.may_go(), [])
        story.add("ash10", "say", AMY)
        self.assertEqual(story.web.may_go(), [])
        story.add("ash11", "door", AMY)
        self.assertEqual(story.web.may_go(), names_of("ash10"))

    def test_in_the_past_of_all_ends(self):
        story = talk()
        story.add("birch11", "say", BOB, after="birch10")
        self.assertEqual(story.web.may_go(), names_of("ash10 birch10"))
        story.add("birch12", "say", BOB, after="birch11")
        self.assertEqual(story.web.may_go(), names_of("ash10 birch10"))
        story.add("elm11", "say", DAN)
        self.assertEqual(story.web.may_go(), names_of("ash10 ash12 birch10 birch11 birch12 elm10"))

    def test_of_more_than_six_ends_in_all_pasts(self):
        story = gathered()
        story.add("ash10", "say", AMY)
        story.add("aa1", "seat", "a@aa", "a@aa", "in", after="ash9")
        for number in range(7):
            story.add("birch" + str(10 + number), "say", BOB, after="ash10")
        self.assertEqual(story.web.may_go(), [])

    def test_barred_ones_those_that_wait_and_twins(self):
        story = talk()
        web = story.web
        web.put(deed(("birch", 20), "say", BOB))
        web.put(deed(("elm", 20), "say", DAN, after=[("zz", 1)]))
        self.assertEqual(web.may_go(), names_of("ash10 birch10 elm10"))
        web.put(altered(web.deed(("ash", 12)), body="oh"))
        web.put(altered(web.deed(("elm", 10)), body="oh!"))
        self.assertEqual((web.ends(), web.may_go()), (names_of("birch10"), names_of("ash10")))

    def test_by_chance_against_slower_ways(self):
        found = 0
        for seed in range(40):
            first, deeds = chance_deeds(seed, 60, 0.05)
            web = Web(first)
            for one in deeds:
                web.put(one)
            self.assertEqual(web.may_go(), SlowWeb(first, deeds).may_go())
            found += len(web.may_go())
        self.assertGreater(found, 20)


class LettingGo(unittest.TestCase):
    def test_their_bodies_are_the_text_without_signs(self):
        web = talk().web
        deeds = {name: web.deed(name) for name in web.names()}
        self.assertIsNone(web.let_go(names_of("elm10 ash10")))
        for name in web.names():
            body = "" if name in names_of("elm10 ash10") else deeds[name][4]
            self.assertEqual(web.deed(name), altered(deeds[name], body=body))
            self.assertEqual(web.both(name), [altered(deeds[name], body=body)])
            self.assertEqual(web.hall()[name], altered(deeds[name], body=body))
        self.assertEqual(web.may_go(), names_of("birch10"))

    def test_all_else_stays(self):
        for given in (names_of("ash10"), tuple(names_of("birch10 elm10")), [], (), names_of("ash10 elm10 birch10")):
            web = talk().web
            told = told_of(web)
            with Unchanged(self, given):
                web.let_go(names=given)
            self.assertEqual(all_but_words(told_of(web)), all_but_words(told))
            self.assertEqual(web.may_go(), [name for name in told["may go"] if name not in given])

    def test_the_same_deeds_come_behind_it(self):
        # What is put behind it stands as it would have.
        for seed in range(25):
            first, deeds = chance_deeds(seed, 60, 0.05)
            web, other, chance = Web(first), Web(first), random.Random(seed)
            for one in deeds:
                self.assertEqual(web.put(one), other.put(one))
                going = [name for name in web.may_go() if chance.random() < 0.3]
                web.let_go(going)
            self.assertEqual(all_but_words(told_of(web)), all_but_words(told_of(other)))
            self.assertEqual(web, other)

    def test_one_without_signs_is_let_go_too(self):
        web = talk().web
        told = web.deed(("birch", 10))
        web.let_go(names_of("birch10"))
        self.assertEqual(web.deed(("birch", 10)), told)
        self.assertNotIn(("birch", 10), web.may_go())
        self.assertEqual(web.put(altered(told, body="after all")), "let")
        self.assertEqual(web.deed(("birch", 10)), altered(told, body="after all"))

    def assert_refused(self, web, names, name):
        told = told_of(web)
        with self.assertRaises(NoGoing) as caught:
            web.let_go(names)
        if isinstance(name, tuple):
            self.assertEqual(caught.exception.name, name)
        else:
            self.assertIs(caught.exception.name, name)
        self.assertEqual(told_of(web), told)

    def test_names_that_may_not_go(self):
        web = talk().web
        web.put(deed(("birch", 20), "say", BOB))
        web.put(deed(("elm", 20), "say", DAN, after=[("zz", 1)]))
        for name in names_of("ash0 ash1 ash9 ash11 ash12 birch20 elm20 zz1 zz9"):
            self.assert_refused(web, [name], name)
            self.assert_refused(web, names_of("ash10 birch10") + [name, None], name)
        self.assert_refused(web, names_of("ash10 zz1 ash12"), ("zz", 1))

    def test_a_name_twice(self):
        web = talk().web
        self.assert_refused(web, names_of("ash10 ash10"), ("ash", 10))
        self.assert_refused(web, tuple(names_of("elm10 ash10 birch10 elm10 zz1")), ("elm", 10))
        self.assert_refused(web, names_of("ash10 zz1 ash10"), ("zz", 1))

    def test_words_let_go_twice(self):
        web = talk().web
        web.let_go(names_of("ash10"))
        self.assert_refused(web, names_of("ash10"), ("ash", 10))
        self.assert_refused(web, names_of("elm10 ash10"), ("ash", 10))
        web.let_go(names_of("elm10"))
        web.put(talk().web.deed(("ash", 10)))
        web.let_go(names_of("ash10"))
        self.assertEqual(web.deed(("ash", 10))[4], "")

    def test_neither_a_list_nor_a_tuple(self):
        web = talk().web
        for thing in ODD_THINGS + (0, "", "ash:10", {("ash", 10): True}, iter([])):
            if not isinstance(thing, (list, tuple)):
                self.assert_refused(web, thing, None)

    def test_things_that_are_no_names(self):
        web = talk().web
        for thing in ODD_THINGS + (0, "", ["ash", 10], ("ash", 10.0), ("ash",), ("ash", 10, 0), names_of("ash10")):
            self.assert_refused(web, [thing], thing)
            self.assert_refused(web, (("ash", 10), thing), thing)

    def test_a_name_with_a_truth_for_its_number(self):
        story = Story()
        story.add("ash5", "seat", AMY, AMY, "in")
        story.add("ash1", "say", AMY)
        story.add("ash2", "door", AMY)
        self.assertEqual(story.web.may_go(), [("ash", 1)])
        thing = ("ash", True)
        told = told_of(story.web)
        with self.assertRaises(NoGoing) as caught:
            story.web.let_go([thing])
        self.assertIs(caught.exception.name, thing)
        self.assertEqual(told_of(story.web), told)


class BringingBack(unittest.TestCase):
    def setUp(self):
        self.web = talk().web
        self.said = self.web.deed(("ash", 10))
        self.bare = altered(self.said, body="")
        self.web.let_go(names_of("ash10 elm10"))

    def test_the_words(self):
        told = told_of(self.web)
        self.assertEqual(self.web.put(self.said), "let")
        self.assertEqual(self.web.deed(("ash", 10)), self.said)
        self.assertEqual(self.web.may_go(), names_of("ash10 birch10"))
        self.assertEqual(all_but_words(told_of(self.web)), all_but_words(told))

    def test_other_words(self):
        self.assertEqual(self.web.put(altered(self.said, body="never said")), "let")
        self.assertEqual(self.web.deed(("ash", 10)), altered(self.said, body="never said"))
        # Now that they are there, others are unlike.
        self.assertEqual(self.web.put(self.said), "barred")
        self.assertEqual(self.web.why(("ash", 10)), ("twin", ""))

    def test_without_them(self):
        told = told_of(self.web)
        self.assertEqual(self.web.put(self.bare), "let")
        self.assertEqual(told_of(self.web), told)
        self.assertEqual(self.web.may_go(), names_of("birch10"))
        # They are still gone: so others may be brought.
        self.assertEqual(self.web.put(self.said), "let")
        self.assertEqual(self.web.deed(("ash", 10)), self.said)

    def test_without_them_where_they_are_there(self):
        web = talk().web
        self.assertEqual(web.put(self.bare), "barred")
        self.assertEqual(web.both(("ash", 10)), [self.said, self.bare])

    def test_another_deed_is_a_twin(self):
        for other in (altered(self.said, who=CYD), altered(self.bare, after=(("ash", 3),)),
                      altered(self.said, kind="move", body=1)):
            web = self.web.twin()
            self.assertEqual(web.put(other), "barred")
            self.assertEqual(web.why(("ash", 10)), ("twin", ""))
            self.assertEqual(web.both(("ash", 10)), [self.bare, other])
            self.assertEqual(web.why(("ash", 12)), ("ahead", ""))
            # The first one's words come back; it stays a twin.
            self.assertEqual(web.put(self.bare), "barred")
            self.assertEqual(web.both(("ash", 10)), [self.bare, other])
            self.assertEqual(web.put(self.said), "barred")
            self.assertEqual(web.both(("ash", 10)), [self.said, other])
            self.assertEqual(web.put(altered(self.said, body="more")), "barred")
            self.assertEqual(web.both(("ash", 10)), [self.said, other])
            self.assertEqual(web.put(other), "barred")
            self.assertEqual(web.why(("ash", 10)), ("twin", ""))

    def test_the_other_one_of_a_twin_has_its_words(self):
        other = altered(self.said, who=CYD)
        self.web.put(other)
        self.assertEqual(self.web.put(altered(other, body="more")), "barred")
        self.assertEqual(self.web.both(("ash", 10)), [self.bare, other])

    def test_refused_as_ever(self):
        told = told_of(self.web)
        with self.assertRaises(NoDeed):
            self.web.put(altered(self.said, body=5))
        with self.assertRaises(NoDeed):
            self.web.put(altered(self.said, after=()))
        self.assertEqual(told_of(self.web), told)

    def test_where_the_web_is_full(self):
        for number in range(300 - len(self.web)):
            self.web.put(deed(("zz", number), "begin", "a@zz"))
        with self.assertRaises(Full):
            self.web.put(deed(("zz", 999), "begin", "a@zz"))
        self.assertEqual(self.web.put(self.said), "let")
        self.assertEqual(self.web.deed(("ash", 10)), self.said)


class Equal(unittest.TestCase):
    def assert_equal(self, is_equal, web, other):
        for one, two in ((web, other), (other, web)):
            self.assertIs(one == two, is_equal)
            self.assertIs(one != two, not is_equal)

    def test_like_nothing_but_webs(self):
        web = talk().web
        for thing in ODD_THINGS + (0, "", (), web.hall(), web.names(), SaysYes()):
            self.assertIs(web == thing, False)
            self.assertIs(web != thing, True)
        self.assert_equal(True, web, web)

    def test_the_same_in_any_order(self):
        for seed in range(20):
            first, deeds = chance_deeds(seed, 40)
            web = Web(first)
            for one in deeds:
                web.put(one)
            other = Web(first)
            for one in reversed(deeds):
                other.put(one)
            self.assert_equal(True, web, other)

    def test_another_begin(self):
        self.assert_equal(False, Web(deed(FIRST, "begin", AMY)), Web(deed(FIRST, "begin", CYD)))
        self.assert_equal(False, Web(deed(FIRST, "begin", AMY)), Web(deed(FIRST, "begin", AMY, body=(2, None))))
        self.assert_equal(False, Web(deed(FIRST, "begin", AMY)), Web(deed(("elm", 0), "begin", DAN)))
        # They know the same deeds, but begin with unlike ones.
        one, two = deed(FIRST, "begin", AMY), deed(("elm", 0), "begin", DAN)
        web, other = Web(one), Web(two)
        web.put(two)
        other.put(one)
        self.assert_equal(False, web, other)

    def test_other_names(self):
        web, other = talk().web, talk().web
        self.assert_equal(True, web, other)
        web.put(deed(("elm", 20), "say", DAN, after=[("zz", 1)]))
        self.assert_equal(False, web, other)
        other.put(deed(("elm", 21), "say", DAN, after=[("zz", 1)]))
        self.assert_equal(False, web, other)

    def test_other_deeds(self):
        for change in ({"body": "oh!"}, {"who": "eve@elm"}, {"after": (("zz", 2),)}, {"leave": (("ash", 9),)}):
            web, other = talk().web, talk().web
            one = deed(("elm", 20), "say", DAN, after=[("zz", 1)])
            web.put(one)
            other.put(altered(one, **change))
            self.assert_equal(False, web, other)

    def test_twins(self):
        web, other = talk().web, talk().web
        said = web.deed(("ash", 10))
        web.put(altered(said, body="a"))
        self.assert_equal(False, web, other)
        # The same names are twins, of whatever deeds.
        other.put(altered(said, body="b"))
        self.assert_equal(True, web, other)
        other.put(altered(other.deed(("birch", 10)), body="b"))
        self.assert_equal(False, web, other)
        web.put(altered(web.deed(("elm", 10)), body="b"))
        self.assert_equal(False, web, other)

    def test_words_that_one_let_go(self):
        web, other = talk().web, talk().web
        web.let_go(names_of("ash10"))
        self.assert_equal(True, web, other)
        other.let_go(names_of("ash10 elm10"))
        self.assert_equal(True, web, other)
        # Other words in the stead of those that were let go.
        third = talk().web
        third.let_go(names_of("ash10"))
        third.put(altered(talk().web.deed(("ash", 10)), body="never said"))
        self.assert_equal(True, web, third)
        self.assert_equal(False, talk().web, third)
        self.assert_equal(True, other, third)

    def test_unlike_words_that_none_let_go(self):
        web, other = talk().web, talk().web
        other.let_go(names_of("elm10"))
        other.put(altered(talk().web.deed(("elm", 10)), body=""))
        self.assert_equal(True, web, other)
        other.put(altered(talk().web.deed(("elm", 10)), body="other"))
        self.assert_equal(False, web, other)
        web.let_go(names_of("ash10"))
        self.assert_equal(False, web, other)

    def test_what_was_let_go_excuses_words_alone(self):
        web, other = talk().web, talk().web
        web.let_go(names_of("ash10"))
        web.put(altered(web.deed(("ash", 10)), who=CYD))
        self.assert_equal(False, web, other)


class TwinsOfAWeb(unittest.TestCase):
    def test_knows_the_same(self):
        for seed in range(15):
            first, deeds = chance_deeds(seed, 40)
            web = Web(first)
            for one in deeds:
                web.put(one)
            web.let_go(web.may_go()[:2])
            twin = web.twin()
            self.assertIs(type(twin), Web)
            self.assertIsNot(twin, web)
            self.assertEqual(twin, web)
            self.assertEqual(told_of(twin), told_of(web))
            self.assertEqual([twin.both(name) for name in twin.names()], [web.both(name) for name in web.names()])

    def test_has_let_go_the_same(self):
        web = talk().web
        said = web.deed(("ash", 10))
        web.let_go(names_of("ash10"))
        twin = web.twin()
        self.assertEqual(twin.may_go(), names_of("birch10 elm10"))
        self.assertEqual(twin.put(said), "let")
        self.assertEqual((twin.deed(("ash", 10)), web.deed(("ash", 10))), (said, altered(said, body="")))

    def test_is_another_one(self):
        web = talk().web
        told, twin = told_of(web), web.twin()
        twin.put(deed(("zz", 1), "begin", "a@zz"))
        twin.let_go(names_of("ash10"))
        twin.put(altered(twin.deed(("ash", 9)), after=(("zz", 7),)))
        self.assertEqual(told_of(web), told)
        self.assertNotEqual(twin, web)
        told, twin = told_of(twin), twin.twin()
        web.put(altered(web.deed(("ash", 1)), body="out"))
        self.assertEqual(told_of(twin), told)

    def test_what_is_put_stands_alike(self):
        first, deeds = chance_deeds(5, 60)
        web = Web(first)
        for one in deeds[:20]:
            web.put(one)
        twin = web.twin()
        for one in deeds[20:]:
            self.assertEqual(twin.put(one), web.put(one))
        self.assertEqual(told_of(twin), told_of(web))

    def test_is_as_full(self):
        web = Web(deed(FIRST, "begin", AMY))
        for number in range(299):
            web.put(deed(("zz", number), "begin", "a@zz"))
        self.assertEqual((len(web), len(web.twin())), (300, 300))
        with self.assertRaises(Full):
            web.twin().put(deed(("zz", 999), "begin", "a@zz"))


if __name__ == "__main__":
    unittest.main()

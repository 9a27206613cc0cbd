"""[18] and [19], and [2] of them: webs, how deeds stand in them and why, and what is told of them."""

import itertools
import random
import time
import unittest

from branchedhall.errors import Full, NoBegin, NoDeed, NoName, NoState, Twin
from branchedhall.webs import MOST, Web
from tests.halls import AMY, BEGIN, BOB, CYD, DAN, DOOR, FIRST, MOVE, RANKS, Unchanged, deed, seat
from tests.samples import BEGIN as SAMPLE_BEGIN
from tests.samples import EDGE_DEEDS, ODD_THINGS, ONE_OF_EACH, altered
from tests.stories import SlowWeb, Story, chance_deeds, gathered, name_of, names_of, told_of, told_of_slow

EVE = "eve@fir"
NO_NAMES = ODD_THINGS + (0, "", "ash:0", ("ash", -1), ("ash", True), ("ash", 100000), ["ash", 0], ("ash",), ("ash", 0, 0),
                         ("Ash", 0), (FIRST,), ("zz", 5), ("ash", 77))


def begun():
    """A web of a begin alone."""
    return Web(deed(FIRST, "begin", AMY))


class Beginning(unittest.TestCase):
    def test_of_a_begin(self):
        for first in (SAMPLE_BEGIN, *[one for one in EDGE_DEEDS if one[1] == "begin"]):
            web = Web(first)
            self.assertEqual(Web(first=first), web)
            name = first[0]
            self.assertEqual((web.names(), len(web), web.deed(name), web.both(name)), ([name], 1, first, [first]))
            self.assertEqual((web.stand(name), web.why(name), web.ahead(name)), ("let", None, {}))
            self.assertEqual((web.behind(name), web.past(name), web.missing()), ({BEGIN: name}, [name], []))
            self.assertEqual((web.ends(), web.now(), web.paper(), web.soft()), ([name], {BEGIN: name}, [], []))
            self.assertEqual((web.hall(), web.may_go()), ({name: first}, []))

    def test_no_deed(self):
        for thing in ODD_THINGS + (0, "", (), SAMPLE_BEGIN[:6], list(SAMPLE_BEGIN)):
            with self.assertRaises(NoDeed) as caught:
                Web(thing)
            self.assertIsNone(caught.exception.part)
        for part in ("name", "kind", "who", "about", "body", "after", "leave"):
            with self.assertRaises(NoDeed) as caught:
                Web(altered(SAMPLE_BEGIN, **{part: 5}))
            self.assertEqual(caught.exception.part, part)
        with self.assertRaises(NoDeed) as caught:
            Web(altered(SAMPLE_BEGIN, who="amy@birch"))
        self.assertEqual(caught.exception.part, "house")

    def test_no_begin(self):
        for one in (*ONE_OF_EACH, *EDGE_DEEDS):
            if one[1] != "begin":
                with self.assertRaises(NoBegin):
                    Web(one)
                # That it is no deed goes first.
                with self.assertRaises(NoDeed):
                    Web(altered(one, leave=()))

    def test_most(self):
        self.assertEqual((MOST, type(MOST)), (300, int))


class Putting(unittest.TestCase):
    def test_how_it_stands_is_told(self):
        web = begun()
        sit = deed(("ash", 1), "seat", AMY, AMY, "in")
        self.assertEqual(web.put(deed=sit), "let")
        self.assertEqual(web.put(sit), "let")
        self.assertEqual(web.put(deed(("birch", 1), "say", BOB)), "barred")
        self.assertEqual(web.put(deed(("birch", 2), "say", BOB, after=[("elm", 1)])), "waits")
        self.assertEqual(web.put(deed(FIRST, "begin", AMY)), "let")
        self.assertEqual(web.names(), names_of("ash0 ash1 birch1 birch2"))
        self.assertEqual(len(web), 4)

    def test_no_deed_changes_nothing(self):
        story = gathered()
        told = told_of(story.web)
        good = story.written("ash10", "door", AMY)
        for thing in ODD_THINGS + (0, "", (), good[:6], list(good), [good], (good,)):
            with self.assertRaises(NoDeed) as caught:
                story.web.put(thing)
            self.assertIsNone(caught.exception.part)
        for part in ("name", "kind", "who", "about", "body", "after", "leave"):
            with self.assertRaises(NoDeed) as caught:
                story.web.put(altered(good, **{part: [5]}))
            self.assertEqual(caught.exception.part, part)
        with self.assertRaises(NoDeed) as caught:
            story.web.put(altered(good, who=BOB))
        self.assertEqual(caught.exception.part, "house")
        self.assertEqual(told_of(story.web), told)

    def test_another_deed_by_the_begins_name(self):
        story = gathered()
        told = told_of(story.web)
        for one in (deed(FIRST, "begin", CYD), deed(FIRST, "begin", AMY, body=(2, None)),
                    deed(FIRST, "say", AMY, after=[("ash", 1)], leave=[("ash", 1)]),
                    deed(FIRST, "say", AMY, after=[("zz", 1)], leave=[("zz", 1)])):
            with self.assertRaises(Twin) as caught:
                story.web.put(one)
            self.assertEqual(caught.exception.name, FIRST)
        self.assertEqual(told_of(story.web), told)

    def test_another_begin(self):
        for other in (deed(("elm", 0), "begin", DAN), deed(("ash", 7), "begin", AMY), deed(("ash", 7), "begin", AMY,
                                                                                        body=(2, FIRST))):
            for web in (begun(), gathered().web):
                now = web.now()
                self.assertEqual(web.put(other), "barred")
                self.assertEqual(web.why(other[0]), ("here", "begun"))
                self.assertEqual((web.now(), other[0] in web.hall()), (now, False))
                self.assertEqual(web.put(deed(("elm", 5), "seat", DAN, DAN, "in", [other[0]], [other[0]])), "barred")
                self.assertEqual(web.why(("elm", 5)), ("ahead", ""))
                web.put(altered(other, body=(1, ("fir", 3))))
                self.assertEqual(web.why(other[0]), ("twin", ""))

    def test_full(self):
        web = begun()
        web.put(deed(("ash", 1), "seat", AMY, AMY, "in"))
        says = [deed(("ash", number), "say", AMY, after=[("ash", number - 1)], leave=[FIRST, ("ash", 1)])
                for number in range(2, 302)]
        for one in says[:298]:
            self.assertEqual(web.put(one), "let")
        self.assertEqual((len(web), web.ends()), (300, [("ash", 299)]))
        told = told_of(web)
        for one in (says[298], says[299], deed(("birch", 0), "say", BOB), deed(("elm", 1), "begin", DAN)):
            with self.assertRaises(Full):
                web.put(one)
        # What is no deed, and another one by the begin's name, are refused as ever.
        with self.assertRaises(NoDeed):
            web.put(altered(says[298], leave=()))
        with self.assertRaises(Twin):
            web.put(deed(FIRST, "begin", CYD))
        self.assertEqual(web.put(says[5]), "let")
        self.assertEqual(told_of(web), told)
        self.assertEqual(web.put(altered(says[297], body="oh")), "barred")
        self.assertEqual((len(web), web.ends(), web.stand(("ash", 299))), (300, [("ash", 298)], "barred"))
        web.let_go([("ash", 2)])
        self.assertEqual(web.put(says[0]), "let")
        self.assertEqual(web.deed(("ash", 2)), says[0])
        with self.assertRaises(Full):
            web.put(says[298])

    def test_full_of_deeds_that_wait(self):
        web = begun()
        for number in range(1, 300):
            self.assertEqual(web.put(deed(("ash", number), "say", AMY, after=[("ash", number + 1)])), "waits")
        with self.assertRaises(Full):
            web.put(deed(("ash", 300), "seat", AMY, AMY, "in"))
        self.assertEqual((len(web), web.missing(), web.ends()), (300, [("ash", 300)], [FIRST]))

    def test_what_was_handed_in_is_shared_not_kept(self):
        first = deed(FIRST, "begin", AMY)
        one = deed(("ash", 1), "seat", AMY, AMY, "in")
        web = Web(first)
        with Unchanged(self, first, one):
            web.put(one)
        self.assertEqual(web.deed(("ash", 1)), one)


class Waiting(unittest.TestCase):
    def test_for_what_isnt_known(self):
        web = begun()
        sit = deed(("ash", 1), "seat", AMY, AMY, "in")
        say = deed(("ash", 2), "say", AMY, after=[("ash", 1)], leave=[FIRST, ("ash", 1)])
        further = deed(("ash", 3), "say", AMY, after=[("ash", 2)], leave=[FIRST, ("ash", 1)])
        self.assertEqual([web.put(further), web.put(say)], ["waits", "waits"])
        self.assertEqual((web.missing(), web.ends(), web.why(("ash", 2))), ([("ash", 1)], [FIRST], None))
        self.assertEqual(web.put(sit), "let")
        self.assertEqual([web.stand(name) for name in web.names()], ["let"] * 4)
        self.assertEqual((web.missing(), web.ends()), ([], [("ash", 3)]))

    def test_after_alone_or_leave_alone(self):
        for after, leave in ((("ash", 5), FIRST), (FIRST, ("ash", 5)), (("ash", 5), ("ash", 5))):
            web = begun()
            self.assertEqual(web.put(deed(("ash", 1), "seat", AMY, AMY, "in", [after], [leave])), "waits")
            self.assertEqual(web.missing(), [("ash", 5)])

    def test_even_where_another_one_is_barred(self):
        web = begun()
        web.put(deed(("birch", 1), "say", BOB))
        self.assertEqual(web.put(deed(("birch", 2), "say", BOB, after=[("birch", 1), ("elm", 1)])), "waits")
        self.assertIsNone(web.why(("birch", 2)))
        web.put(deed(("elm", 1), "say", DAN))
        self.assertEqual(web.why(("birch", 2)), ("ahead", ""))

    def test_a_struck_name_isnt_waited_for(self):
        web = begun()
        web.put(deed(("ash", 1), "seat", AMY, AMY, "in"))
        strike = deed(("ash", 2), "strike", AMY, body=("elm", 1), after=[("ash", 1)], leave=[FIRST, ("ash", 1)])
        self.assertEqual(web.put(strike), "barred")
        self.assertEqual((web.missing(), web.why(("ash", 2))), ([], ("past", "strike")))
        # It was not in the past of its after, and never will be.
        web.put(deed(("elm", 1), "seat", DAN, DAN, "in"))
        self.assertEqual(web.why(("ash", 2)), ("past", "strike"))

    def test_a_begins_elder_isnt_waited_for(self):
        web = Web(deed(FIRST, "begin", AMY, body=(1, ("elm", 3))))
        self.assertEqual((web.missing(), web.stand(FIRST)), ([], "let"))

    def test_a_round(self):
        web = begun()
        rounds = [deed(("ash", 1), "say", AMY, after=[("birch", 1)]), deed(("birch", 1), "say", BOB, leave=[("elm", 1)]),
                  deed(("elm", 1), "say", DAN, after=[("ash", 1)])]
        for one in rounds:
            self.assertEqual(web.put(one), "waits")
        behind = deed(("fir", 1), "say", EVE, after=[("elm", 1)])
        self.assertEqual(web.put(behind), "waits")
        self.assertEqual([web.stand(name) for name in web.names()], ["let"] + ["waits"] * 4)
        self.assertEqual((web.missing(), web.ends(), web.hall()), ([], [FIRST], {FIRST: deed(FIRST, "begin", AMY)}))
        # A twin waits for nothing: so what was a round is barred.
        self.assertEqual(web.put(altered(rounds[1], body="oh")), "barred")
        self.assertEqual([web.why(name) for name in web.names()],
                         [None, ("ahead", ""), ("twin", ""), ("ahead", ""), ("ahead", "")])

    def test_two_that_name_one_another(self):
        web = begun()
        web.put(deed(("ash", 1), "seat", AMY, AMY, "in", [("ash", 2)]))
        web.put(deed(("ash", 2), "seat", AMY, AMY, "in", [FIRST], [("ash", 1)]))
        self.assertEqual([web.stand(name) for name in web.names()], ["let", "waits", "waits"])


class Twins(unittest.TestCase):
    def test_two_unlike_deeds(self):
        story = gathered()
        story.add("ash10", "say", AMY)
        story.add("ash11", "say", CYD)
        one = story.web.deed(("ash", 10))
        other = altered(one, body="oh")
        self.assertEqual(story.web.put(other), "barred")
        self.assertEqual([story.web.why(name) for name in names_of("ash9 ash10 ash11")],
                         [None, ("twin", ""), ("ahead", "")])
        self.assertEqual(story.web.both(("ash", 10)), [one, other])
        self.assertEqual((story.web.ends(), len(story.web)), ([("ash", 9)], 9))
        told = told_of(story.web)
        # Either of them again, and further ones, change nothing.
        for again in (one, other, altered(one, body="ah"), altered(one, after=(("zz", 1),)), altered(one, who=CYD)):
            self.assertEqual(story.web.put(again), "barred")
            self.assertEqual(told_of(story.web), told)
            self.assertEqual(story.web.both(("ash", 10)), [one, other])

    def test_the_one_known_first_stands_ahead(self):
        one = deed(("ash", 1), "seat", AMY, AMY, "in")
        other = deed(("ash", 1), "seat", AMY, AMY, "out")
        for deeds in ([one, other], [other, one], [other, one, other]):
            web = begun()
            for each in deeds:
                web.put(each)
            self.assertEqual(web.both(("ash", 1)), deeds[:2])

    def test_of_a_deed_that_waits(self):
        web = begun()
        one = deed(("ash", 1), "say", AMY, after=[("elm", 1)], leave=[("elm", 2)])
        other = deed(("ash", 1), "say", AMY, after=[("elm", 3)], leave=[("elm", 1)])
        self.assertEqual([web.put(one), web.put(other)], ["waits", "barred"])
        self.assertEqual((web.why(("ash", 1)), web.missing()), (("twin", ""), [("elm", 1), ("elm", 2), ("elm", 3)]))

    def test_of_a_barred_deed(self):
        web = begun()
        web.put(deed(("birch", 1), "say", BOB))
        self.assertEqual(web.why(("birch", 1)), ("leave", "seat"))
        web.put(deed(("birch", 1), "say", BOB, body="oh"))
        self.assertEqual(web.why(("birch", 1)), ("twin", ""))

    def test_what_doesnt_hang_on_it_stays(self):
        story = gathered()
        story.add("birch2", "seat", BOB, EVE, "called", after="ash9")
        story.add("fir1", "seat", EVE, EVE, "in", after="birch2")
        story.add("ash10", "ranks", AMY, body=(((AMY, 100),), ()), after="ash9")
        story.add("elm2", "say", DAN, after="ash10 fir1")
        behind = story.web.behind(("ash", 10))
        self.assertEqual(story.web.put(altered(story.web.deed(("birch", 2)), body="out")), "barred")
        self.assertEqual(story.web.behind(("ash", 10)), behind)
        self.assertEqual(story.web.ends(), [("ash", 10)])
        self.assertEqual([story.web.why(name) for name in names_of("birch2 fir1 elm2")],
                         [("twin", ""), ("ahead", ""), ("ahead", "")])

    def test_what_hangs_on_it_by_leave(self):
        story = gathered()
        story.add("ash10", "say", AMY)
        web = story.web
        self.assertNotIn(("ash", 3), web.deed(("ash", 10))[6])
        sit = web.deed(("ash", 1))
        web.put(altered(sit, body="out"))
        self.assertEqual([name for name in web.names() if web.stand(name) == "let"], [FIRST])
        self.assertEqual((web.now(), web.ends(), web.soft()), ({BEGIN: FIRST}, [FIRST], []))

    def test_many_twins(self):
        web = begun()
        web.put(deed(("ash", 1), "seat", AMY, AMY, "in"))
        says = [deed(("ash", number), "say", AMY, after=[("ash", number - 1)], leave=[FIRST, ("ash", 1)])
                for number in range(2, 300)]
        start = time.monotonic()
        for one in says:
            web.put(one)
        for one in reversed(says):
            web.put(altered(one, body="oh"))
        self.assertEqual(set(web.why(one[0]) for one in says), {("twin", "")})
        self.assertLess(time.monotonic() - start, 30)


class Reasons(unittest.TestCase):
    def assert_why(self, web, one, why):
        self.assertEqual(web.put(one), "barred" if why else "let", web.why(one[0]))
        self.assertEqual(web.why(one[0]), why)
        self.assertEqual(web.why(name=one[0]), why)
        if why:
            self.assertIs(type(web.why(one[0])), tuple)

    def test_ahead(self):
        for after, leave in ((["ash1"], ["ash0"]), (["ash0"], ["ash0", "ash1"])):
            web = begun()
            self.assert_why(web, deed(("ash", 1), "seat", AMY, BOB, "in"), ("leave", "other"))
            after, leave = [[name_of(name) for name in names] for names in (after, leave)]
            self.assert_why(web, deed(("ash", 2), "seat", AMY, AMY, "in", after, leave), ("ahead", ""))
            self.assert_why(web, deed(("ash", 3), "say", AMY, after=[("ash", 2)]), ("ahead", ""))

    def test_past_leave(self):
        story = gathered()
        # All that gives it leave is known and let in, but not in the past of what it stands behind.
        for number, after in enumerate(([FIRST], names_of("ash3"), names_of("elm1")), 20):
            one = story.written("ash" + str(number), "door", AMY)
            self.assert_why(story.web, altered(one, after=tuple(after)), ("past", "leave"))
        one = story.written("ash30", "door", AMY)
        self.assert_why(story.web, altered(one, after=(FIRST, ("ash", 9))), None)

    def test_past_strike(self):
        story = gathered()
        story.add("ash10", "say", CYD, after="ash9")
        story.add("elm2", "say", DAN, after="ash9")
        for number, (struck, after) in enumerate(((("ash", 10), "elm2"), (("elm", 2), "ash10"), (("zz", 9), "elm2"),
                                                  (("ash", 20), "ash9"), (("ash", 23), "ash9")), 20):
            one = story.written("ash" + str(number), "strike", AMY, body=struck, after=after)
            self.assert_why(story.web, one, ("past", "strike"))
        for number, (struck, after) in enumerate(((("ash", 10), "ash10"), (("elm", 2), "ash10 elm2"), (FIRST, "ash9"),
                                                  (("ash", 9), "ash9")), 30):
            one = story.written("ash" + str(number), "strike", AMY, body=struck, after=after)
            self.assert_why(story.web, one, None)
        # The text of a say, or what a begin's elder is, strikes nothing.
        self.assert_why(story.web, story.written("ash40", "say", AMY, body="zz:9", after="ash9"), None)

    def test_leave_twice_and_other(self):
        story = gathered()
        story.add("ash10", "say", AMY, after="ash9")
        story.add("ash11", "ranks", AMY, body=(((AMY, 100), (BOB, 60)), ()), after="ash10")
        good = story.written("ash20", "door", AMY)
        self.assertEqual(good[6], tuple(names_of("ash0 ash1 ash11")))
        rows = [("ash0 ash1 ash9 ash11", "twice"), ("ash0 ash1 ash10 ash11", "twice"), ("ash0 ash1 ash11 ash2", "other"),
                ("ash1 ash11", "unbegun"), ("ash0 ash1", None), ("ash0 ash11", "seat"), ("ash0", "seat"),
                ("ash0 ash3 ash11", "other")]
        for number, (leave, rule) in enumerate(rows, 20):
            one = altered(good, name=("ash", number), leave=tuple(sorted(names_of(leave))))
            self.assert_why(story.web, one, None if rule is None else ("leave", rule))

    def test_leave_by_each_rule(self):
        story = gathered(wanted=[("call", 10), ("say", 20), ("strike", 70)])
        story.add("ash10", "seat", AMY, EVE, "barred")
        story.add("ash11", "door", AMY, body="asked")
        rows = [
            ("ash", "seat", AMY, BOB, "in", "other"), ("fir", "seat", EVE, EVE, "in", "barred"),
            ("gorse", "seat", "fay@gorse", "fay@gorse", "in", "door"), ("fir", "seat", EVE, EVE, "out", "seat"),
            ("fir", "say", EVE, "", "oh", "seat"), ("ash", "seat", AMY, BOB, "called", "there"),
            ("ash", "seat", AMY, EVE, "called", "barred"), ("elm", "seat", DAN, "fay@gorse", "called", "rank"),
            ("elm", "seat", DAN, BOB, "out", "rank"), ("elm", "seat", DAN, DAN, "barred", "rank"),
            ("birch", "seat", BOB, CYD, "out", "above"), ("birch", "seat", BOB, BOB, "barred", "above"),
            ("elm", "ranks", DAN, "", ((), ()), "rank"), ("birch", "ranks", BOB, "", ((), ()), "above"),
            ("birch", "strike", BOB, "", FIRST, "rank"), ("elm", "say", DAN, "", "oh", "rank"),
            ("elm", "door", DAN, "", "open", "rank"), ("elm", "move", DAN, "", 2, "rank")]
        for number, (house, kind, who, about, body, rule) in enumerate(rows, 20):
            one = story.written(house + str(number), kind, who, about, body, after="ash11")
            self.assert_why(story.web, one, ("leave", rule))

    def test_here_by_each_rule(self):
        # All of them have leave by what they name, the elder deeds; but not by the state ahead of them.
        story = gathered()
        later = [("ranks", "", (((AMY, 100),), (("call", 10), ("say", 20)))), ("door", "", "asked"),
                 ("seat", EVE, "barred"), ("seat", DAN, "out"), ("seat", "fay@gorse", "called")]
        rows = [
            ("fir", "seat", EVE, EVE, "in", "barred"), ("hazel", "seat", "gus@hazel", "gus@hazel", "in", "door"),
            ("elm", "seat", DAN, DAN, "out", "seat"), ("elm", "say", DAN, "", "oh", "seat"),
            ("birch", "seat", BOB, "fay@gorse", "called", "there"), ("birch", "seat", BOB, EVE, "called", "barred"),
            ("birch", "seat", BOB, "gus@hazel", "called", "rank"), ("birch", "seat", BOB, DAN, "out", "rank"),
            ("birch", "ranks", BOB, "", (((AMY, 100), (BOB, 60), (CYD, 60), (DAN, 1)), ()), "rank"),
            ("birch", "door", BOB, "", "open", "rank"), ("birch", "move", BOB, "", 1, "rank"),
            ("birch", "strike", BOB, "", FIRST, "rank"), ("birch", "say", BOB, "", "oh", "rank")]
        written = [story.written(house + str(number), kind, who, about, body, after="ash9")
                   for number, (house, kind, who, about, body, rule) in enumerate(rows, 40)]
        for number, (kind, about, body) in enumerate(later, 10):
            story.add("ash" + str(number), kind, AMY, about, body)
        story.add("gorse1", "seat", "fay@gorse", "fay@gorse", "in")
        for one, row in zip(written, rows):
            self.assert_why(story.web, altered(one, after=(("gorse", 1),)), ("here", row[5]))

    def test_here_above(self):
        story = gathered()
        one = story.written("birch40", "seat", BOB, DAN, "out", after="ash9")
        ranks = story.written("birch41", "ranks", BOB, body=(((AMY, 100), (BOB, 60), (CYD, 60), (DAN, 10)), ()),
                              after="ash9")
        story.add("ash10", "ranks", AMY, body=(((AMY, 100), (BOB, 60), (CYD, 60), (DAN, 60)), ()))
        for each in (one, ranks):
            self.assert_why(story.web, altered(each, after=(("ash", 10),)), ("here", "above"))

    def test_here_by_a_state_made_of_several(self):
        story = gathered()
        story.add("ash10", "seat", AMY, DAN, "barred", after="ash9")
        story.add("elm2", "say", DAN, after="ash9")
        one = story.written("elm3", "say", DAN, after="elm2")
        self.assert_why(story.web, altered(one, after=tuple(names_of("ash10 elm2"))), ("here", "seat"))
        self.assert_why(story.web, altered(one, name=("elm", 4)), None)

    def test_of_two_that_are_due_the_first(self):
        story = gathered()
        web = story.web
        story.add("ash10", "say", AMY, after="ash9")
        web.put(deed(("birch", 9), "say", BOB))
        self.assertEqual(web.stand(("birch", 9)), "barred")
        good = story.written("ash20", "strike", AMY, body=("ash", 10), after="ash10")
        # Its name is a twin, and one ahead of it is barred.
        twin = altered(good, name=("ash", 30), after=(("birch", 9),))
        web.put(twin)
        self.assertEqual(web.why(("ash", 30)), ("ahead", ""))
        web.put(altered(twin, body=FIRST))
        self.assertEqual(web.why(("ash", 30)), ("twin", ""))
        # One ahead of it is barred, and its leave isn't in its past.
        self.assert_why(web, altered(good, name=("ash", 31), after=(("birch", 9),)), ("ahead", ""))
        self.assert_why(web, altered(good, name=("ash", 32), leave=good[6] + (("birch", 9),)), ("ahead", ""))
        # Neither its leave nor what it strikes is in its past.
        self.assert_why(web, altered(good, name=("ash", 33), after=(FIRST,)), ("past", "leave"))
        # What it strikes isn't in its past, and it isn't given.
        self.assert_why(web, altered(good, name=("ash", 34), after=(("ash", 9),), leave=(FIRST,)), ("past", "strike"))
        # Its leave isn't in its past, and it isn't given, either.
        self.assert_why(web, altered(good, name=("ash", 35), after=(("ash", 1),), leave=(("ash", 2),)), ("past", "leave"))
        # It isn't given, and the state ahead bars it by another rule.
        say = story.written("elm9", "say", DAN, after="ash9")
        story.add("ash11", "seat", AMY, DAN, "barred", after="ash9")
        self.assert_why(web, altered(say, after=(("ash", 11),), leave=(FIRST,)), ("leave", "seat"))
        self.assert_why(web, altered(say, name=("elm", 10), after=(("ash", 11),), leave=say[6][:-1]), ("leave", "seat"))
        more = tuple(sorted((*say[6], ("ash", 2))))
        self.assert_why(web, altered(say, name=("elm", 11), after=(("ash", 11),), leave=more), ("leave", "other"))
        self.assert_why(web, altered(say, name=("elm", 12), after=(("ash", 11),)), ("here", "seat"))


class AnyOrder(unittest.TestCase):
    def assert_told(self, first, deeds, told, ask=False):
        web = Web(first)
        for one in deeds:
            stood = web.put(one)
            self.assertEqual(stood, web.stand(one[0]))
            if ask:
                told_of(web)
        self.assertEqual(told_of(web), told)

    def test_all_orders_of_a_few(self):
        story = Story()
        story.add("ash1", "seat", AMY, AMY, "in")
        story.add("ash2", "seat", AMY, BOB, "called")
        story.add("birch1", "seat", BOB, BOB, "in", after="ash2")
        story.add("ash3", "seat", AMY, BOB, "out", after="ash2")
        deeds = [story.web.deed(name) for name in story.web.names()[1:]]
        deeds += [story.written("ash4", "say", AMY), altered(deeds[2], body="barred")]
        told = told_of_slow(SlowWeb(story.first, deeds))
        for order in itertools.permutations(deeds):
            self.assert_told(story.first, order, told)

    def test_orders_by_chance_with_questions_between(self):
        whys = set()
        for seed in range(40):
            first, deeds = chance_deeds(seed, 50)
            chance = random.Random(seed)
            told = told_of_slow(SlowWeb(first, deeds))
            self.assert_told(first, deeds, told, ask=seed % 4 == 0)
            self.assert_told(first, deeds[::-1], told)
            # A third deed by a name might be known ahead of the others: so each name has at most two here.
            chance.shuffle(deeds)
            again = told_of_slow(SlowWeb(first, deeds))
            self.assert_told(first, deeds + chance.sample(deeds, len(deeds) // 2), again, ask=seed % 8 == 0)
            self.assertEqual({key: again[key] for key in again if key != "both"},
                             {key: told[key] for key in told if key != "both"})
            whys.update(told["why"])
        self.assertTrue(whys >= {None, ("twin", ""), ("ahead", ""), ("past", "leave"), ("past", "strike"),
                                 ("leave", "other"), ("leave", "twice")}, whys)

    def test_what_is_missing_and_comes_late(self):
        for seed in range(30):
            first, deeds = chance_deeds(seed, 40, 0.05)
            lost = random.Random(seed).choice(deeds)
            late = [one for one in deeds if one[0] == lost[0]]
            rest = [one for one in deeds if one[0] != lost[0]]
            told = told_of_slow(SlowWeb(first, deeds))
            self.assert_told(first, rest + late, told)
            self.assert_told(first, rest[::-1] + late, told)

    def test_a_long_row_from_its_end(self):
        web = begun()
        says = [deed(("ash", number), "say", AMY, after=[("ash", number - 1)], leave=[FIRST, ("ash", 1)])
                for number in range(2, 300)]
        start = time.monotonic()
        for one in reversed(says):
            self.assertEqual(web.put(one), "waits")
        web.put(deed(("ash", 1), "seat", AMY, AMY, "in"))
        self.assertEqual((web.ends(), len(web.past(("ash", 299)))), ([("ash", 299)], 300))
        self.assertLess(time.monotonic() - start, 30)


class Questions(unittest.TestCase):
    def setUp(self):
        """A web with names of all stands: ash10 is let in, birch9 barred, elm9 waits, fir9 is a twin."""
        self.story = gathered()
        self.story.add("ash10", "say", AMY)
        self.web = self.story.web
        self.barred, self.waits = deed(("birch", 9), "say", BOB), deed(("elm", 9), "say", DAN, after=[("zz", 1)])
        self.twins = [deed(("fir", 9), "say", EVE, body=body, after=[("zz", number)])
                      for number, body in enumerate(("a", "b"), 2)]
        for one in (self.barred, self.waits, *self.twins):
            self.web.put(one)

    def test_names(self):
        self.assertEqual(self.web.names(), names_of("ash0 ash1 ash2 ash3 ash9 ash10 birch1 birch9 elm1 elm9 fir9"))
        self.assertEqual(len(self.web), 11)

    def test_names_that_arent_known(self):
        told = told_of(self.web)
        for ask in (self.web.deed, self.web.both, self.web.stand, self.web.why, self.web.ahead, self.web.behind,
                    self.web.past):
            for thing in NO_NAMES:
                with self.assertRaises(NoName) as caught:
                    ask(thing)
                self.assertIs(caught.exception.name, thing)
            # What is missing isn't known.
            with self.assertRaises(NoName):
                ask(("zz", 1))
        self.assertEqual(told_of(self.web), told)

    def test_deed(self):
        self.assertEqual(self.web.deed(FIRST), self.story.first)
        self.assertEqual(self.web.deed(name=("birch", 9)), self.barred)
        self.assertEqual(self.web.deed(("elm", 9)), self.waits)
        with self.assertRaises(Twin) as caught:
            self.web.deed(("fir", 9))
        self.assertEqual(caught.exception.name, ("fir", 9))

    def test_both(self):
        self.assertEqual(self.web.both(name=("birch", 9)), [self.barred])
        self.assertEqual(self.web.both(("elm", 9)), [self.waits])
        self.assertEqual(self.web.both(("fir", 9)), self.twins)
        self.web.both(("fir", 9)).pop()
        self.assertEqual(self.web.both(("fir", 9)), self.twins)

    def test_stand_and_why(self):
        stands = [("ash10", "let", None), ("birch9", "barred", ("leave", "seat")), ("elm9", "waits", None),
                  ("fir9", "barred", ("twin", "")), ("ash0", "let", None)]
        for name, stand, why in stands:
            self.assertEqual((self.web.stand(name=name_of(name)), self.web.why(name_of(name))), (stand, why))

    def test_states_and_pasts_of_those_let_in(self):
        before = {BEGIN: FIRST, seat(AMY): ("ash", 1), DOOR: ("ash", 2), seat(CYD): ("ash", 3),
                  seat(BOB): ("birch", 1), seat(DAN): ("elm", 1)}
        behind = {**before, RANKS: ("ash", 9)}
        self.assertEqual(self.web.ahead(name=("ash", 9)), before)
        self.assertEqual(self.web.behind(name=("ash", 9)), behind)
        self.assertEqual((self.web.ahead(("ash", 10)), self.web.behind(("ash", 10))), (behind, behind))
        self.assertEqual(self.web.past(name=("ash", 9)), names_of("ash0 ash1 ash2 ash3 ash9 birch1 elm1"))
        self.assertEqual(self.web.past(("ash", 2)), names_of("ash0 ash1 ash2"))
        self.assertEqual((self.web.ahead(FIRST), self.web.behind(FIRST), self.web.past(FIRST)),
                         ({}, {BEGIN: FIRST}, [FIRST]))

    def test_no_states_of_others(self):
        for ask in (self.web.ahead, self.web.behind, self.web.past):
            for name in names_of("birch9 elm9 fir9"):
                with self.assertRaises(NoState) as caught:
                    ask(name)
                self.assertEqual(caught.exception.name, name)

    def test_missing(self):
        self.assertEqual(self.web.missing(), names_of("zz1 zz2 zz3"))
        self.web.put(deed(("zz", 2), "begin", "a@zz"))
        self.assertEqual(self.web.missing(), names_of("zz1 zz3"))
        self.web.put(deed(("zz", 2), "say", "a@zz", after=[("ab", 1)], leave=[("ab", 0)]))
        self.assertEqual(self.web.missing(), names_of("ab0 ab1 zz1 zz3"))

    def test_ends(self):
        self.assertEqual(self.web.ends(), names_of("ash10"))
        self.story.add("birch20", "say", BOB, after="ash9")
        self.assertEqual(self.web.ends(), names_of("ash10 birch20"))
        # What is barred or waits stands ahead of none.
        self.web.put(deed(("birch", 21), "say", "dan@birch", after=names_of("ash10 birch20")))
        self.web.put(deed(("birch", 22), "say", BOB, after=names_of("ash10 birch20 zz9")))
        self.assertEqual(self.web.ends(), names_of("ash10 birch20"))
        self.story.add("ash20", "say", AMY)
        self.assertEqual(self.web.ends(), [("ash", 20)])

    def test_a_leave_makes_no_end(self):
        web = begun()
        web.put(deed(("ash", 1), "seat", AMY, AMY, "in"))
        self.assertEqual((web.ends(), web.hall()[("ash", 1)][6]), ([("ash", 1)], (FIRST,)))
        story = gathered()
        story.add("ash10", "ranks", AMY, body=(((AMY, 100),), ()), after="ash9")
        self.assertEqual(story.web.ends(), [("ash", 10)])

    def test_now_and_its_paper(self):
        story = gathered()
        self.assertEqual((story.web.now(), story.web.paper()), (story.web.behind(("ash", 9)), []))
        story.add("ash10", "door", AMY, body="asked", after="ash9")
        story.add("fir1", "seat", EVE, EVE, "in", after="ash9")
        self.assertEqual(story.web.now(), story.web.behind(("ash", 10)))
        self.assertEqual(story.web.paper(), [(("ash", 2), None), (("ash", 10), None), (("fir", 1), "door")])

    def test_more_than_six_ends(self):
        story = gathered()
        for number in range(10, 18):
            story.add("ash" + str(number), "seat", AMY, "a" * (number - 9) + "@zz", "called", after="ash9")
            ends = [("ash", at) for at in range(10, number + 1)]
            self.assertEqual(story.web.ends(), ends)
            keys = {seat("a" * (name[1] - 9) + "@zz"): name for name in ends[-6:]}
            self.assertEqual(story.web.now(), {**story.web.behind(("ash", 9)), **keys})
            self.assertEqual(story.web.paper(), [(name, None) for name in ends[-6:]] if len(ends) > 1 else [])
        # The last six by their names, whenever they came.
        story.add("aa0", "seat", "a@aa", "a@aa", "in", after="ash9")
        self.assertNotIn(seat("a@aa"), story.web.now())
        story.add("zz0", "seat", "b@zz", "b@zz", "in", after="ash9")
        self.assertIn(seat("b@zz"), story.web.now())
        self.assertNotIn(("ash", 12), story.web.now().values())

    def test_hall(self):
        self.assertEqual(self.web.hall(), {name: self.web.deed(name) for name in self.web.names()
                                           if self.web.stand(name) == "let"})
        self.assertEqual(len(self.web.hall()), 8)

    def test_by_chance_against_slower_ways(self):
        for seed in range(100, 140):
            first, deeds = chance_deeds(seed, 60, 0.1)
            web = Web(first)
            for one in deeds:
                web.put(one)
            self.assertEqual(told_of(web), told_of_slow(SlowWeb(first, deeds)))

    def test_what_is_told_is_the_askers_own(self):
        self.story.add("birch20", "move", BOB, after="ash9")
        told = told_of(self.web)
        for thing in (self.web.names(), self.web.missing(), self.web.ends(), self.web.soft(), self.web.may_go(),
                      self.web.paper(), self.web.past(("ash", 10)), self.web.both(("ash", 10))):
            self.assertIs(type(thing), list)
            thing.append(None)
            thing.reverse()
            self.assertEqual(told_of(self.web), told)
        for ask in (self.web.now, self.web.hall, lambda: self.web.ahead(("ash", 10)),
                    lambda: self.web.behind(("ash", 10)), lambda: self.web.behind(("birch", 20)),
                    lambda: self.web.ahead(FIRST)):
            thing = ask()
            self.assertIs(type(thing), dict)
            thing[MOVE] = FIRST
            self.assertEqual(told_of(self.web), told)
            ask().clear()
            self.assertEqual(told_of(self.web), told)


class Soft(unittest.TestCase):
    def test_none_at_first(self):
        self.assertEqual(gathered().web.soft(), [])

    def test_who_is_in_no_more(self):
        story = gathered()
        story.add("elm2", "say", DAN, after="ash9")
        story.add("elm3", "seat", DAN, EVE, "called", after="ash9")
        story.add("ash10", "seat", AMY, DAN, "barred", after="ash9")
        # The seat by which dan came is looked at by the state ahead of it, as if there were no bar.
        self.assertEqual(story.web.now()[seat(DAN)], ("ash", 10))
        self.assertEqual(story.web.soft(), names_of("elm2 elm3"))

    def test_whose_rank_is_less_now(self):
        story = gathered()
        story.add("birch2", "move", BOB)
        story.add("birch3", "say", BOB)
        story.add("ash10", "ranks", AMY, body=(((AMY, 100), (CYD, 60)), ()))
        self.assertEqual(story.web.soft(), names_of("birch2"))

    def test_by_the_door_that_is_shut_now(self):
        story = gathered()
        story.add("ash10", "door", AMY, body="asked")
        # Amy began; the others came by the open door.
        self.assertEqual(story.web.soft(), names_of("ash3 birch1 elm1"))

    def test_the_own_key_is_what_was_ahead(self):
        story = gathered()
        story.add("birch2", "seat", BOB, BOB, "out")
        story.add("birch3", "seat", BOB, BOB, "in")
        story.add("ash10", "door", AMY, body="asked")
        # birch2 had a seat to give up; birch1 and birch3 had none to keep, and the door is shut.
        self.assertEqual(story.web.soft(), names_of("ash3 birch1 birch3 elm1"))

    def test_ranks_by_what_was_ahead_of_them(self):
        # By the ranks that she told herself amy has 60, too little for what she gave; ahead of it she had 100.
        story = Story()
        story.add("ash1", "seat", AMY, AMY, "in")
        story.add("ash2", "ranks", AMY, body=(((AMY, 60), (BOB, 90)), ()))
        self.assertEqual(story.web.soft(), [])
        story.add("ash3", "door", AMY, body="open")
        story.add("birch1", "seat", BOB, BOB, "in")
        story.add("birch2", "ranks", BOB, body=(((BOB, 90),), ()))
        # Of ash2 the ranks are left out, as there were none; of birch2 they are those of ash2; of ash3 those of birch2.
        self.assertEqual(story.web.soft(), names_of("ash3"))

    def test_the_begin_isnt_told(self):
        story = gathered()
        for number in range(10, 14):
            story.add("ash" + str(number), "say", AMY)
        self.assertNotIn(FIRST, story.web.soft())

    def test_what_is_barred_or_waits_isnt_told(self):
        story = gathered()
        story.web.put(deed(("birch", 9), "say", BOB))
        story.web.put(deed(("elm", 9), "say", DAN, after=[("zz", 1)]))
        self.assertEqual(story.web.soft(), [])


if __name__ == "__main__":
    unittest.main()

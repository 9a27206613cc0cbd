"""[9] and [10], and [2] of them: keys and names of leave, and the rule that bars a deed."""

import itertools
import unittest

from branchedhall.deeds import KINDS, WORDS
from branchedhall.leave import bar, keys_for, leave_for
from tests.halls import AMY, BEGIN, BOB, BODIES, CYD, DAN, DOOR, MOVE, RANKS, Unchanged, deed, scene, seat, turned

OTHER_KINDS = ("ranks", "door", "say", "strike", "move")
ODD_BODIES = ("in", "out", "called", "barred", "", None, 0, ["in"], ("in",), {})
NAMES = {BEGIN: ("ash", 9), RANKS: ("birch", 1), seat(AMY): ("ash", 10), seat(BOB): ("birch", 0), DOOR: ("elm", 2),
         MOVE: ("ash", 1), seat(CYD): ("ash", 2)}


class Keys(unittest.TestCase):
    def assert_keys(self, kind, who, about, body, *keys):
        told = keys_for(kind, who, about, body)
        self.assertIs(type(told), list)
        self.assertEqual(sorted(told), sorted(keys))
        self.assertEqual(keys_for(body=body, about=about, who=who, kind=kind), told)
        told.append(("move", ""))
        del told[0]
        self.assertEqual(sorted(keys_for(kind, who, about, body)), sorted(keys))

    def test_none_of_begin(self):
        for body in ODD_BODIES + ((1, None), (2, ("ash", 0))):
            self.assertEqual(keys_for("begin", AMY, "", body), [])
            self.assertEqual(leave_for(NAMES, "begin", AMY, "", body), ())

    def test_other_kinds_whatever_the_body(self):
        for kind in OTHER_KINDS:
            for body in ODD_BODIES + (BODIES[kind],):
                self.assert_keys(kind, AMY, "", body, BEGIN, RANKS, seat(AMY))
                self.assert_keys(kind, DAN, "", body, BEGIN, RANKS, seat(DAN))

    def test_a_seat_about_oneself(self):
        for body in ("out", "called", "barred"):
            self.assert_keys("seat", AMY, AMY, body, BEGIN, RANKS, seat(AMY))
        self.assert_keys("seat", AMY, AMY, "in", BEGIN, RANKS, seat(AMY), DOOR)

    def test_a_seat_about_another(self):
        for body in ("out", "called", "barred"):
            self.assert_keys("seat", AMY, BOB, body, BEGIN, RANKS, seat(AMY), seat(BOB))
        self.assert_keys("seat", AMY, BOB, "in", BEGIN, RANKS, seat(AMY), seat(BOB), DOOR)

    def test_each_once(self):
        for kind, body, about in itertools.product(KINDS, ("in", "out"), (AMY, BOB)):
            keys = keys_for(kind, AMY, about, body)
            self.assertEqual(len(set(keys)), len(keys))

    def test_in_the_order_that_is_told(self):
        self.assertEqual(keys_for("seat", AMY, BOB, "in"), [BEGIN, RANKS, seat(AMY), seat(BOB), DOOR])


class Names(unittest.TestCase):
    def assert_leave(self, state, kind, who, about, body, *names):
        with Unchanged(self, state):
            told = leave_for(state, kind, who, about, body)
            self.assertIs(type(told), tuple)
            self.assertEqual(told, names)
            self.assertEqual(leave_for(body=body, about=about, who=who, kind=kind, state=state), names)
        self.assertEqual(leave_for(turned(state), kind, who, about, body), names)

    def test_each_kind_by_a_whole_state(self):
        for kind in OTHER_KINDS:
            for body in ODD_BODIES:
                self.assert_leave(NAMES, kind, AMY, "", body, ("ash", 9), ("ash", 10), ("birch", 1))
        for body in ("out", "called", "barred"):
            self.assert_leave(NAMES, "seat", AMY, AMY, body, ("ash", 9), ("ash", 10), ("birch", 1))
            self.assert_leave(NAMES, "seat", AMY, BOB, body, ("ash", 9), ("ash", 10), ("birch", 0), ("birch", 1))
        self.assert_leave(NAMES, "seat", BOB, BOB, "in", ("ash", 9), ("birch", 0), ("birch", 1), ("elm", 2))
        self.assert_leave(NAMES, "seat", AMY, BOB, "in", ("ash", 9), ("ash", 10), ("birch", 0), ("birch", 1),
                          ("elm", 2))

    def test_a_state_that_lacks_some(self):
        self.assert_leave({}, "say", AMY, "", "good day")
        self.assert_leave({}, "seat", AMY, BOB, "in")
        self.assert_leave({BEGIN: ("ash", 9)}, "seat", AMY, BOB, "in", ("ash", 9))
        self.assert_leave(NAMES, "say", DAN, "", "good day", ("ash", 9), ("birch", 1))
        self.assert_leave(NAMES, "seat", DAN, DAN, "in", ("ash", 9), ("birch", 1), ("elm", 2))
        self.assert_leave({MOVE: ("ash", 1), seat(CYD): ("ash", 2)}, "say", AMY, "", "good day")
        for key in NAMES:
            rest = {other: name for other, name in NAMES.items() if other != key}
            due = [rest[other] for other in (BEGIN, RANKS, seat(AMY), seat(BOB), DOOR) if other in rest]
            self.assert_leave(rest, "seat", AMY, BOB, "in", *sorted(due))

    def test_sorted_as_tuples_are(self):
        state = {BEGIN: ("b", 0), RANKS: ("a", 10), seat(AMY): ("a", 9), seat(BOB): ("aa", 1), DOOR: ("z", 3)}
        self.assert_leave(state, "seat", AMY, BOB, "in", ("a", 9), ("a", 10), ("aa", 1), ("b", 0), ("z", 3))


class Bars(unittest.TestCase):
    def assert_bar(self, rule, kind, who, about="", body=None, *, rules_told=1, **told):
        hall, state = scene(rules=rules_told, **told)
        house = who.split("@")[1]
        new = deed((house, 500), kind, who, about, body, list(hall), list(hall)[:6])
        with Unchanged(self, hall, state):
            self.assertEqual(bar(hall, state, new), rule)
            self.assertEqual(bar(deed=new, state=state, hall=hall), rule)
        self.assertEqual(bar(turned(hall), turned(state), new), rule)
        # It is told of a deed in the hall, too.
        self.assertEqual(bar({**hall, new[0]: new}, state, new), rule)


class BarsOfAll(Bars):
    def test_begin(self):
        new = deed(("elm", 3), "begin", DAN)
        self.assertIsNone(bar({}, {}, new))
        self.assertIsNone(bar({("elm", 3): new}, {}, new))
        self.assertIsNone(bar(scene()[0], {}, new))
        self.assert_bar("begun", "begin", AMY)
        self.assert_bar("begun", "begin", DAN)
        for told in ({"door": "open"}, {"seats": {AMY: "in"}}, {"people": ((AMY, 1),)}):
            self.assert_bar("begun", "begin", AMY, began=None, **told)

    def test_a_state_that_has_a_move_alone(self):
        hall = {("ash", 0): deed(("ash", 0), "begin"), ("ash", 1): deed(("ash", 1), "move")}
        state = {MOVE: ("ash", 1)}
        self.assertEqual(bar(hall, state, deed(("elm", 3), "begin", DAN)), "begun")
        self.assertEqual(bar(hall, state, deed(("ash", 3), "say", AMY)), "unbegun")

    def test_unbegun(self):
        for kind in KINDS[1:]:
            self.assert_bar("unbegun", kind, AMY, began=None)
            self.assert_bar("unbegun", kind, AMY, began=None, seats={AMY: "in"}, people=((AMY, 100),), door="open")
        for body in ("in", "out", "called", "barred"):
            for about in (AMY, BOB):
                self.assert_bar("unbegun", "seat", AMY, about, body, began=None, seats={AMY: "in"}, door="open")
                self.assert_bar("unbegun", "seat", AMY, about, body, began=None, seats={about: "barred"})

    def test_the_seat_goes_ahead_of_all_else(self):
        for body in ("out", "called", "barred"):
            for there in ("out", "called", "barred", None):
                seats = {} if there is None else {AMY: there}
                for about in ("out", "in", "called", "barred"):
                    self.assert_bar("seat", "seat", AMY, BOB, body, seats={**seats, BOB: about})
                    self.assert_bar("seat", "seat", AMY, BOB, body, seats={**seats, BOB: about}, people=((BOB, 100),))
        for kind in OTHER_KINDS:
            for told in ({}, {"people": ((AMY, 100),)}, {"people": ((BOB, 1),)}, {"rules_told": 2}):
                self.assert_bar("seat", kind, AMY, **told)
                self.assert_bar("seat", kind, AMY, seats={BOB: "in"}, **told)
                for there in ("out", "called", "barred"):
                    self.assert_bar("seat", kind, AMY, seats={AMY: there, BOB: "in"}, **told)


class BarsOfComing(Bars):
    def test_another_one(self):
        for who, about in itertools.permutations((AMY, BOB, CYD), 2):
            self.assert_bar("other", "seat", who, about, "in")
            self.assert_bar("other", "seat", who, about, "in", seats={AMY: "in", about: "called"}, door="open")
            self.assert_bar("other", "seat", who, about, "in", seats={who: "barred", about: "barred"})

    def test_who_began(self):
        self.assert_bar(None, "seat", AMY, AMY, "in")
        for there in ("in", "out", "called"):
            self.assert_bar(None, "seat", AMY, AMY, "in", seats={AMY: there}, door="asked")
        self.assert_bar(None, "seat", AMY, AMY, "in", people=((BOB, 100),))
        self.assert_bar(None, "seat", BOB, BOB, "in", began=BOB)
        self.assert_bar("door", "seat", AMY, AMY, "in", began=BOB)

    def test_the_barred(self):
        for who in (AMY, BOB):
            for door in (None, "asked", "open"):
                self.assert_bar("barred", "seat", who, who, "in", seats={who: "barred"}, door=door)
                self.assert_bar("barred", "seat", who, who, "in", seats={who: "barred"}, people=((who, 100),))

    def test_the_called_and_those_who_are_in(self):
        for there in ("called", "in"):
            for door in (None, "asked", "open"):
                self.assert_bar(None, "seat", BOB, BOB, "in", seats={BOB: there}, door=door)

    def test_the_door(self):
        for seats in ({}, {BOB: "out"}, {AMY: "in"}, {AMY: "called"}):
            self.assert_bar("door", "seat", BOB, BOB, "in", seats=seats)
            self.assert_bar("door", "seat", BOB, BOB, "in", seats=seats, door="asked")
            self.assert_bar("door", "seat", BOB, BOB, "in", seats=seats, people=((BOB, 100),))
            self.assert_bar(None, "seat", BOB, BOB, "in", seats=seats, door="open")
            self.assert_bar(None, "seat", BOB, BOB, "in", seats=seats, door="open", people=((AMY, 100),))

    def test_who_isnt_by_the_house(self):
        self.assert_bar("door", "seat", CYD, CYD, "in", seats={AMY: "in"})


class BarsOfGoing(Bars):
    def test_out_of_oneself(self):
        for who in (AMY, BOB):
            for people in ((), ((who, 0),), ((CYD, 100),)):
                self.assert_bar("seat", "seat", who, who, "out", people=people)
                for there, rule in (("in", None), ("called", None), ("out", "seat"), ("barred", "seat")):
                    self.assert_bar(rule, "seat", who, who, "out", seats={who: there}, people=people)

    def test_it_is_ones_own_seat(self):
        self.assert_bar("seat", "seat", BOB, BOB, "out", seats={AMY: "in"})
        self.assert_bar(None, "seat", BOB, BOB, "out", seats={AMY: "out", BOB: "in"}, wanted=(("out", 100),))

    def test_out_of_another_wants_being_in(self):
        self.assert_bar("seat", "seat", AMY, BOB, "out", seats={AMY: "called", BOB: "in"})


class BarsOfCalling(Bars):
    def test_where_another_one_is(self):
        for there, rule in (("in", "there"), ("barred", "barred"), ("out", None), ("called", None)):
            self.assert_bar(rule, "seat", AMY, BOB, "called", seats={AMY: "in", BOB: there})
        self.assert_bar(None, "seat", AMY, BOB, "called", seats={AMY: "in"})

    def test_ahead_of_the_rank(self):
        for there, rule in (("in", "there"), ("barred", "barred"), ("out", "rank"), ("called", "rank")):
            self.assert_bar(rule, "seat", AMY, BOB, "called", seats={AMY: "in", BOB: there}, wanted=(("call", 1),))

    def test_oneself(self):
        self.assert_bar("there", "seat", AMY, AMY, "called", seats={AMY: "in"})
        self.assert_bar("seat", "seat", AMY, AMY, "called", seats={AMY: "out"})

    def test_the_rank(self):
        for rank, rule in ((29, "rank"), (30, None), (31, None), (0, "rank")):
            self.assert_bar(rule, "seat", BOB, CYD, "called", seats={BOB: "in"}, people=((BOB, rank),),
                            wanted=(("call", 30),))
        self.assert_bar(None, "seat", BOB, CYD, "called", seats={BOB: "in"})
        self.assert_bar(None, "seat", BOB, CYD, "called", seats={BOB: "in"}, people=((AMY, 100),))

    def test_a_greater_one_may_be_called(self):
        self.assert_bar(None, "seat", BOB, AMY, "called", seats={BOB: "in"})


class BarsOfPutting(Bars):
    WORD = {"out": "out", "barred": "bar"}

    def test_the_rank(self):
        for body, word in self.WORD.items():
            for rank, rule in ((0, "rank"), (49, "rank"), (50, None), (51, None), (100, None)):
                self.assert_bar(rule, "seat", BOB, CYD, body, seats={BOB: "in"}, people=((BOB, rank),))
            for rank, rule in ((19, "rank"), (20, None), (21, None)):
                self.assert_bar(rule, "seat", BOB, CYD, body, seats={BOB: "in"}, people=((BOB, rank),),
                                wanted=((word, 20),))

    def test_each_by_its_own_word(self):
        for body, word in self.WORD.items():
            others = [(other, 100) for other in WORDS if other != word]
            self.assert_bar(None, "seat", BOB, CYD, body, seats={BOB: "in"}, people=((BOB, 50),), wanted=others)
            others = [(other, 0) for other in WORDS if other != word]
            self.assert_bar("rank", "seat", BOB, CYD, body, seats={BOB: "in"}, people=((BOB, 49),), wanted=others)

    def test_above(self):
        for body in self.WORD:
            for rank, rule in ((0, None), (59, None), (60, "above"), (61, "above"), (100, "above")):
                self.assert_bar(rule, "seat", BOB, CYD, body, seats={BOB: "in", CYD: "in"},
                                people=((BOB, 60), (CYD, rank)))
            self.assert_bar(None, "seat", AMY, BOB, body, seats={AMY: "in"})
            self.assert_bar("above", "seat", BOB, CYD, body, seats={BOB: "in"}, wanted=(("bar", 0), ("out", 0)))

    def test_the_rank_goes_ahead_of_above(self):
        for body in self.WORD:
            for told in ({}, {"people": ((BOB, 49), (CYD, 100))}, {"people": ((BOB, 49), (CYD, 49))}):
                self.assert_bar("rank", "seat", BOB, AMY, body, seats={BOB: "in"}, **told)
                self.assert_bar("rank", "seat", BOB, CYD, body, seats={BOB: "in"}, **told)

    def test_where_another_one_is_doesnt_matter_else(self):
        for body, there in itertools.product(self.WORD, ("in", "out", "called", "barred")):
            self.assert_bar(None, "seat", AMY, BOB, body, seats={AMY: "in", BOB: there})

    def test_out_of_one_who_is_barred(self):
        for rank, rule in ((29, "rank"), (30, "rank"), (69, "rank"), (70, None)):
            self.assert_bar(rule, "seat", BOB, CYD, "out", seats={BOB: "in", CYD: "barred"}, people=((BOB, rank),),
                            wanted=(("bar", 70), ("out", 30)))
            self.assert_bar(rule, "seat", BOB, CYD, "out", seats={BOB: "in", CYD: "barred"}, people=((BOB, rank),),
                            wanted=(("bar", 30), ("out", 70)))
        for there in ("in", "out", "called"):
            self.assert_bar(None, "seat", BOB, CYD, "out", seats={BOB: "in", CYD: there}, people=((BOB, 30),),
                            wanted=(("bar", 70), ("out", 30)))
        self.assert_bar("above", "seat", BOB, CYD, "out", seats={BOB: "in", CYD: "barred"},
                        people=((BOB, 70), (CYD, 70)), wanted=(("bar", 70), ("out", 30)))
        self.assert_bar("rank", "seat", BOB, CYD, "out", seats={BOB: "in", CYD: "barred"},
                        people=((BOB, 60), (CYD, 80)), wanted=(("bar", 70), ("out", 30)))

    def test_barred_of_one_who_is_barred_wants_bar_alone(self):
        self.assert_bar(None, "seat", BOB, CYD, "barred", seats={BOB: "in", CYD: "barred"}, people=((BOB, 30),),
                        wanted=(("bar", 30), ("out", 70)))

    def test_barred_of_oneself(self):
        self.assert_bar("above", "seat", AMY, AMY, "barred", seats={AMY: "in"})
        self.assert_bar("above", "seat", BOB, BOB, "barred", seats={BOB: "in"}, people=((BOB, 50),))
        self.assert_bar("rank", "seat", BOB, BOB, "barred", seats={BOB: "in"}, people=((BOB, 49),))
        self.assert_bar("rank", "seat", BOB, BOB, "barred", seats={BOB: "in"})
        self.assert_bar("above", "seat", BOB, BOB, "barred", seats={BOB: "in"}, wanted=(("bar", 0),))
        for there in ("out", "called", "barred"):
            self.assert_bar("seat", "seat", AMY, AMY, "barred", seats={AMY: there})


class BarsOfRanks(Bars):
    def assert_ranks(self, rule, elder, newer, who=BOB, words=(), new_words=(), **told):
        body = (tuple(sorted(newer)), tuple(sorted(new_words)))
        self.assert_bar(rule, "ranks", who, "", body, seats={who: "in"}, people=elder, wanted=words, **told)

    def test_the_rank(self):
        for rank, rule in ((0, "rank"), (49, "rank"), (50, None), (51, None)):
            self.assert_ranks(rule, ((BOB, rank),), ((BOB, rank),))
            self.assert_ranks("rank" if rule else "above", ((BOB, rank),), ((BOB, 100),))
        for rank, rule in ((19, "rank"), (20, None)):
            words = (("ranks", 20),)
            self.assert_ranks(rule, ((BOB, rank),), ((BOB, rank),), words=words, new_words=words)

    def test_raised(self):
        for rank, rule in ((1, None), (59, None), (60, None), (61, "above"), (100, "above")):
            self.assert_ranks(rule, ((BOB, 60),), ((BOB, 60), (CYD, rank)))
            self.assert_ranks(rule, ((BOB, 60), (CYD, 30)), ((BOB, 60), (CYD, rank)))
            self.assert_ranks(rule, ((BOB, 60),), ((BOB, rank),))

    def test_lowered(self):
        for rank, rule in ((59, None), (60, "above"), (61, "above"), (100, "above")):
            for newer in ((), ((CYD, 0),), ((CYD, 1),), ((CYD, 58),)):
                self.assert_ranks(rule, ((BOB, 60), (CYD, rank)), ((BOB, 60),) + newer)

    def test_an_equal_ones_rank_raised(self):
        self.assert_ranks("above", ((BOB, 60), (CYD, 60)), ((BOB, 60), (CYD, 61)))
        self.assert_ranks("above", ((BOB, 0),), ((CYD, 1),), words=(("ranks", 0),), new_words=(("ranks", 0),))

    def test_left_as_they_are(self):
        for rank in (0, 59, 60, 61, 100):
            self.assert_ranks(None, ((BOB, 60), (CYD, rank)), ((BOB, 60), (CYD, rank)))
        self.assert_ranks(None, ((BOB, 60), (CYD, 0)), ((BOB, 60),))
        self.assert_ranks(None, ((BOB, 60),), ((BOB, 60), (CYD, 0)))
        self.assert_ranks(None, ((AMY, 100), (BOB, 60), (CYD, 60)), ((AMY, 100), (BOB, 60), (CYD, 60), (DAN, 60)))

    def test_ones_own(self):
        for rank in (0, 1, 59, 60):
            self.assert_ranks(None, ((BOB, 60),), ((BOB, rank),))
        self.assert_ranks(None, ((BOB, 60),), ())
        self.assert_ranks("above", ((BOB, 60),), ((BOB, 61),))
        self.assert_ranks("above", ((BOB, 60),), ((CYD, 60), (DAN, 61)))

    def test_who_began_without_a_ranks_deed(self):
        body = (((BOB, 100),), ())
        for people in ((), ((AMY, 100),), ((AMY, 5), (BOB, 100)), ((BOB, 100), (CYD, 100))):
            self.assert_bar(None, "ranks", AMY, "", (people, ()), seats={AMY: "in"})
        self.assert_bar("rank", "ranks", BOB, "", body, seats={BOB: "in"})
        self.assert_bar("rank", "ranks", BOB, "", (((AMY, 100),), ()), seats={BOB: "in"})

    def test_who_began_has_no_rank_that_isnt_told(self):
        self.assert_ranks("rank", ((BOB, 60),), ((AMY, 50), (BOB, 60)), who=AMY)
        self.assert_ranks(None, ((BOB, 60),), ((BOB, 60),))
        self.assert_ranks(None, ((BOB, 60),), ((AMY, 60), (BOB, 60)))

    def test_one_of_many(self):
        elder = ((AMY, 100), (BOB, 60), (CYD, 30), (DAN, 60))
        for newer, rule in (
                (((AMY, 100), (BOB, 60), (CYD, 40), (DAN, 60)), None),
                (((AMY, 99), (BOB, 60), (CYD, 40), (DAN, 60)), "above"),
                (((BOB, 60), (CYD, 40), (DAN, 60)), "above"),
                (((AMY, 100), (BOB, 60), (CYD, 40), (DAN, 59)), "above"),
                (((AMY, 100), (BOB, 60), (CYD, 40)), "above"),
                (((AMY, 100), (DAN, 60)), None),
                (((AMY, 100), (BOB, 60), (DAN, 60), ("zed@z", 61)), "above"),
                (((AMY, 100), (BOB, 60), (DAN, 60), ("zed@z", 60)), None)):
            self.assert_ranks(rule, elder, newer)

    def test_words_raised_and_lowered(self):
        own = ((BOB, 60),)
        for word in WORDS:
            for elder, newer, rule in ((60, 10, None), (61, 10, "above"), (10, 60, None), (10, 61, "above"),
                                       (61, 61, None), (100, 100, None), (61, 62, "above"), (60, 60, None),
                                       (60, 59, None), (100, 0, "above")):
                if word == "ranks" and elder > 60:
                    continue
                self.assert_ranks(rule, own, own, words=((word, elder),), new_words=((word, newer),))

    def test_words_that_arent_told(self):
        own = ((BOB, 40),)
        free = (("ranks", 0),)
        for word in WORDS:
            if word == "ranks":
                continue
            # What isn't told is wanted with its own rank: that is a change, too, above 40 but for call and say.
            light = word in ("call", "say")
            for rank in (0, 40):
                rule = None if light else "above"
                self.assert_ranks(rule, own, own, words=free, new_words=free + ((word, rank),))
                self.assert_ranks(rule, own, own, words=free + ((word, rank),), new_words=free)
            self.assert_ranks("above", own, own, words=free, new_words=free + ((word, 41),))
            same = (word, 0 if light else 50)
            self.assert_ranks(None, own, own, words=free, new_words=free + (same,))
            self.assert_ranks(None, own, own, words=free + (same,), new_words=free)
        self.assert_ranks("above", own, own, words=free, new_words=())

    def test_words_of_ones_own_rank_may_be_changed(self):
        own = ((BOB, 50),)
        for word in WORDS:
            self.assert_ranks(None, own, own, new_words=((word, 49),))
            self.assert_ranks(None, own, own, new_words=((word, 50),))
            self.assert_ranks("above", own, own, new_words=((word, 51),))

    def test_a_rank_of_nought_or_one(self):
        free = (("ranks", 0),)
        for elder, newer, rule in (
                (((AMY, 100),), ((AMY, 100),), None), (((AMY, 100),), ((AMY, 100), (CYD, 0)), None),
                (((AMY, 100),), ((AMY, 100), (CYD, 1)), "above"), (((AMY, 100), (CYD, 0)), ((AMY, 100),), None),
                (((AMY, 100),), ((AMY, 100), (BOB, 1)), "above"), (((AMY, 100),), ((AMY, 99),), "above"),
                (((BOB, 1), (CYD, 1)), ((BOB, 1),), "above"), (((BOB, 1), (CYD, 0)), ((BOB, 1),), None),
                (((BOB, 1),), ((BOB, 1), (CYD, 0)), None), (((BOB, 1),), ((BOB, 1), (CYD, 1)), None),
                (((BOB, 1),), ((BOB, 1), (CYD, 2)), "above"), (((BOB, 1),), ((CYD, 1),), None)):
            words = free + tuple((word, 0) for word in WORDS if word != "ranks")
            self.assert_ranks(rule, elder, newer, words=words, new_words=words)
            self.assert_ranks(rule, elder, newer, words=free, new_words=free)

    def test_many_people(self):
        elder = tuple(("p" + letter + "@z", 60) for letter in "abcdefghijklmnopqrs") + ((BOB, 60),)
        self.assert_ranks(None, elder, elder)
        for at in (0, 9, 18):
            self.assert_ranks("above", elder, elder[:at] + elder[at + 1:])


class BarsOfStrikes(Bars):
    def test_by_rules_1(self):
        for struck in (("birch", 3), ("ash", 3), ("z", 9)):
            for rank, rule in ((0, "rank"), (49, "rank"), (50, None), (51, None)):
                self.assert_bar(rule, "strike", BOB, "", struck, seats={BOB: "in"}, people=((BOB, rank),))
            self.assert_bar("rank", "strike", BOB, "", struck, seats={BOB: "in"})
            self.assert_bar(None, "strike", AMY, "", struck, seats={AMY: "in"})
            for rank, rule in ((19, "rank"), (20, None)):
                self.assert_bar(rule, "strike", BOB, "", struck, seats={BOB: "in"}, people=((BOB, rank),),
                                wanted=(("strike", 20),))

    def test_by_rules_2(self):
        for rank, rule in ((0, "rank"), (49, "rank"), (50, None)):
            for struck in (("ash", 3), ("bob", 3), ("z", 9)):
                self.assert_bar(rule, "strike", BOB, "", struck, rules_told=2, seats={BOB: "in"}, people=((BOB, rank),))
            self.assert_bar(None, "strike", BOB, "", ("birch", 3), rules_told=2, seats={BOB: "in"},
                            people=((BOB, rank),), wanted=(("strike", 100),))
        self.assert_bar(None, "strike", BOB, "", ("birch", 99999), rules_told=2, seats={BOB: "in"})
        self.assert_bar("rank", "strike", BOB, "", ("ash", 0), rules_told=2, seats={BOB: "in"})

    def test_being_in_is_wanted_of_ones_own_too(self):
        for there in ("out", "called", "barred"):
            self.assert_bar("seat", "strike", BOB, "", ("birch", 3), rules_told=2, seats={BOB: there})

    def test_a_move_changes_no_rules(self):
        hall, state = scene(seats={BOB: "in"})
        hall[("ash", 9)] = deed(("ash", 9), "move", AMY, body=2)
        state[MOVE] = ("ash", 9)
        self.assertEqual(bar(hall, state, deed(("birch", 4), "strike", BOB, body=("birch", 3))), "rank")


class BarsOfOthers(Bars):
    def test_the_word_of_the_kind(self):
        for kind, plain in (("door", 50), ("say", 0), ("move", 50)):
            for rank in (0, 19, 20, 49, 50, 100):
                people = ((BOB, rank),)
                self.assert_bar("rank" if rank < plain else None, kind, BOB, seats={BOB: "in"}, people=people)
                self.assert_bar("rank" if rank < 20 else None, kind, BOB, seats={BOB: "in"}, people=people,
                                wanted=((kind, 20),))
                others = [(word, 100) for word in WORDS if word != kind]
                self.assert_bar("rank" if rank < plain else None, kind, BOB, seats={BOB: "in"}, people=people,
                                wanted=others)
            self.assert_bar(None, kind, AMY, seats={AMY: "in"})

    def test_bodies_dont_matter(self):
        for body in ("open", "asked"):
            self.assert_bar(None, "door", AMY, "", body, seats={AMY: "in"}, door="open")
        for body in (1, 2):
            self.assert_bar(None, "move", AMY, "", body, seats={AMY: "in"}, rules_told=2)
        for body in ("", "in", "out", "called", "barred", "open", BOB):
            self.assert_bar(None, "say", BOB, "", body, seats={BOB: "in"})
            self.assert_bar("seat", "say", BOB, "", body, seats={BOB: "called"}, door="open")


if __name__ == "__main__":
    unittest.main()

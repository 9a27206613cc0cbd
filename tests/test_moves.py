"""[25], and [2] and [3] (h) of it: halls moved to new rules, and halls that are kept."""

import unittest

from branchedhall.chains import not_given
from branchedhall.deeds import key_of, look_at_deed
from branchedhall.errors import Barred, NoDeed
from branchedhall.houses import House
from branchedhall.moves import is_kept, moved
from branchedhall.ranks import door_in, ranked, seat_in, wanted_in
from branchedhall.texts import read_all, show_all
from branchedhall.webs import Web
from tests.halls import AMY, BEGIN, BOB, CYD, DAN, DOOR, FIRST, MOVE, RANKS, Unchanged, deed, scene, seat, turned
from tests.samples import ODD_THINGS
from tests.stories import PEOPLE, Story, chance_deeds, gathered

EVE, FAY = "eve@fir", "fay@gorse"


def hall_by(deeds):
    """The hall and the state of new deeds."""
    return {one[0]: one for one in deeds}, {key_of(one): one[0] for one in deeds}


def moving():
    """A story with all that is moved: ranks, a door, two bars, and a move, ash13."""
    story = gathered(wanted=[("bar", 40), ("say", 10)])
    story.add("ash10", "seat", AMY, FAY, "barred")
    story.add("ash11", "seat", AMY, EVE, "barred")
    story.add("ash12", "door", AMY, body="asked")
    story.add("ash13", "move", AMY, body=2)
    return story


class Moved(unittest.TestCase):
    def assert_moved(self, hall, state, person, number, rules, rows):
        """The deeds are those of rows (kind, about, body), numbered, each behind the one ahead."""
        with Unchanged(self, hall, state):
            told = moved(hall, state, person, number=number, rules=rules)
            self.assertIs(type(told), list)
            self.assertEqual(moved(state=state, person=person, rules=rules, hall=turned(hall), number=number), told)
            self.assertEqual(moved(hall, turned(state), person, number=number, rules=rules), told)
        self.assertEqual([one[1:5] for one in told], [(kind, person, about, body) for kind, about, body in rows])
        house = person.split("@")[1]
        self.assertEqual([one[0] for one in told], [(house, number + at) for at in range(len(rows))])
        self.assertEqual([one[5] for one in told], [()] + [(one[0],) for one in told[:-1]])
        new, later = hall_by(told)
        for one in told:
            self.assertIsNone(look_at_deed(one))
            self.assertIsNone(not_given(new, one))
        self.assertTrue(is_kept(hall, state, new, later))
        told.append(None)
        self.assertEqual(moved(hall, state, person, number=number, rules=rules), told[:-1])
        return told[:-1]

    def test_all_of_it(self):
        story = moving()
        ranks = (((AMY, 100), (BOB, 60), (CYD, 60)), (("bar", 40), ("say", 10)))
        rows = [("begin", "", (2, ("ash", 13))), ("seat", AMY, "in"), ("ranks", "", ranks), ("door", "", "asked"),
                ("seat", EVE, "barred"), ("seat", FAY, "barred")]
        told = self.assert_moved(story.web.hall(), story.web.now(), AMY, 20, 2, rows)
        names = [("ash", number) for number in range(20, 26)]
        self.assertEqual([one[6] for one in told], [
            (), (names[0],), (names[0], names[1]), (names[0], names[1], names[2]), (names[0], names[1], names[2]),
            (names[0], names[1], names[2])])

    def test_by_another_person(self):
        story = moving()
        ranks = (((AMY, 100), (BOB, 60), (CYD, 60)), (("bar", 40), ("say", 10)))
        rows = [("begin", "", (1, ("ash", 13))), ("seat", BOB, "in"), ("ranks", "", ranks), ("door", "", "asked"),
                ("seat", EVE, "barred"), ("seat", FAY, "barred")]
        self.assert_moved(story.web.hall(), story.web.now(), BOB, 0, 1, rows)

    def test_the_least(self):
        story = Story()
        story.add("ash1", "seat", AMY, AMY, "in")
        rows = [("begin", "", (1, None)), ("seat", AMY, "in"), ("ranks", "", (((AMY, 100),), ()))]
        told = self.assert_moved(story.web.hall(), story.web.now(), AMY, 0, 1, rows)
        self.assertEqual(moved(story.web.hall(), story.web.now(), AMY, rules=1), told)
        self.assertEqual(told[0], (FIRST, "begin", AMY, "", (1, None), (), ()))
        with self.assertRaises(TypeError):
            moved(story.web.hall(), story.web.now(), AMY, 0, 1)
        with self.assertRaises(TypeError):
            moved(story.web.hall(), story.web.now(), AMY)

    def test_a_move_without_a_name_for_it(self):
        # The elder is the state's own move, whoever did it; a move that the hall has besides is none.
        story = moving()
        state = {key: name for key, name in story.web.now().items() if key != MOVE}
        self.assertEqual(moved(story.web.hall(), state, AMY, rules=1)[0][4], (1, None))

    def test_the_door_where_there_is_one(self):
        for body in ("open", "asked"):
            story = Story()
            story.add("ash1", "seat", AMY, AMY, "in")
            story.add("ash2", "door", AMY, body=body)
            told = moved(story.web.hall(), story.web.now(), AMY, rules=1)
            self.assertEqual([one[1] for one in told], ["begin", "seat", "ranks", "door"])
            self.assertEqual(told[3][4], body)

    def test_the_seats_of_others_stay_behind(self):
        story = gathered()
        told = moved(story.web.hall(), story.web.now(), AMY, rules=1)
        self.assertEqual([one[1] for one in told], ["begin", "seat", "ranks", "door"])
        self.assertEqual([one[3] for one in told if one[1] == "seat"], [AMY])

    def test_where_who_moves_has_less_than_who_began(self):
        # Who begins anew has 100, but only till the ranks deed.
        story = gathered(((AMY, 100), (BOB, 50)))
        told = moved(story.web.hall(), story.web.now(), BOB, rules=2)
        hall, state = hall_by(told)
        self.assertEqual(ranked(hall, state), {AMY: 100, BOB: 50})

    def test_numbers(self):
        story = moving()
        for number in (0, 1, 500, 99994):
            told = moved(story.web.hall(), story.web.now(), AMY, number=number, rules=1)
            self.assertEqual([one[0] for one in told], [("ash", number + at) for at in range(6)])

    def test_what_is_moved_is_put_and_heard(self):
        story = moving()
        for rules in (1, 2):
            told = moved(story.web.hall(), story.web.now(), BOB, number=7, rules=rules)
            self.assertEqual(read_all(show_all(told)), told)
            web = Web(told[0])
            self.assertEqual([web.put(one) for one in told[::-1]][-1], "let")
            self.assertEqual([web.stand(one[0]) for one in told], ["let"] * 6)
            self.assertTrue(is_kept(story.web.hall(), story.web.now(), web.hall(), web.now()))
            house = House("birch")
            house.told(told[0])
            self.assertEqual(house.hear(told), ["let"] * 6)
            self.assertEqual(house.do(BOB, "door", body="open")[0], ("birch", 13))

    def test_halls_by_chance(self):
        told = refused = 0
        for seed in range(80):
            first, deeds = chance_deeds(seed, 50, 0.1)
            web = Web(first)
            for one in deeds:
                web.put(one)
            hall, now = web.hall(), web.now()
            for person in PEOPLE:
                try:
                    new = moved(hall, now, person, number=5, rules=2)
                except Barred as barred:
                    self.assertEqual(barred.where, "move")
                    refused += 1
                    continue
                told += 1
                other, later = hall_by(new)
                self.assertTrue(is_kept(hall, now, other, later))
                self.assertEqual(ranked(hall, now), ranked(other, later))
                self.assertEqual(door_in(hall, now), door_in(other, later))
                for word in ("bar", "call", "door", "move", "out", "ranks", "say", "strike"):
                    self.assertEqual(wanted_in(hall, now, word), wanted_in(other, later, word))
                for one in PEOPLE:
                    self.assertEqual(seat_in(hall, now, one) == "barred", seat_in(other, later, one) == "barred")
                again = Web(new[0])
                self.assertEqual([again.put(one) for one in new], ["let"] * len(new))
                self.assertEqual(again.now(), later)
        self.assertGreater(told, 20)
        self.assertGreater(refused, 20)


class Refused(unittest.TestCase):
    def assert_no_deed(self, part, hall, state, person, **more):
        with Unchanged(self, hall, state):
            with self.assertRaises(NoDeed) as caught:
                moved(hall, state, person, **more)
        self.assertEqual(caught.exception.part, part)

    def assert_barred(self, rule, hall, state, person, **more):
        with Unchanged(self, hall, state):
            with self.assertRaises(Barred) as caught:
                moved(hall, state, person, **{"rules": 1, **more})
        self.assertEqual((caught.exception.where, caught.exception.rule), ("move", rule))

    def test_no_person_ahead_of_all(self):
        hall, state = moving().web.hall(), moving().web.now()
        for thing in ODD_THINGS + (0, "", "amy", "amy@", "Amy@ash", "abcdefghi@ash", (AMY,)):
            self.assert_no_deed("who", hall, state, thing, rules=1)
            self.assert_no_deed("who", hall, {}, thing, number=-1, rules=9)

    def test_rules(self):
        hall, state = moving().web.hall(), moving().web.now()
        for thing in ODD_THINGS + (0, 3, "1", (1,)):
            self.assert_no_deed("body", hall, state, AMY, rules=thing)
            # Ahead of what bars it.
            self.assert_no_deed("body", hall, state, DAN, rules=thing)
            self.assert_no_deed("body", hall, {}, DAN, rules=thing)

    def test_numbers_that_are_too_great(self):
        hall, state = moving().web.hall(), moving().web.now()
        for number in (99995, 99999, 100000, 10 ** 59, -1, -10 ** 59):
            self.assert_no_deed("name", hall, state, AMY, number=number, rules=1)
            self.assert_no_deed("name", hall, state, DAN, number=number, rules=1)
        # Of the first that is none: its rules ahead of a later one's name, its own name ahead of its rules.
        self.assert_no_deed("body", hall, state, AMY, number=99999, rules=3)
        self.assert_no_deed("name", hall, state, AMY, number=100000, rules=3)
        self.assertEqual(moved(hall, state, AMY, number=99994, rules=1)[-1][0], ("ash", 99999))
        self.assert_no_deed("name", hall, state, AMY, number=True, rules=1)
        self.assert_no_deed("name", hall, state, AMY, number=None, rules=1)

    def test_a_state_without_a_begin(self):
        hall, state = moving().web.hall(), moving().web.now()
        self.assert_barred("unbegun", hall, {}, AMY)
        self.assert_barred("unbegun", hall, {key: name for key, name in state.items() if key != BEGIN}, AMY)
        self.assert_barred("unbegun", {}, {}, BOB)

    def test_what_bars_the_move(self):
        story = gathered(wanted=[("move", 60)])
        hall, state = story.web.hall(), story.web.now()
        self.assert_barred("rank", hall, state, DAN)
        self.assert_barred("seat", hall, state, EVE)
        moved(hall, state, BOB, rules=1)
        story.add("ash10", "seat", AMY, BOB, "barred")
        self.assert_barred("seat", story.web.hall(), story.web.now(), BOB)

    def test_what_bars_one_of_the_deeds(self):
        # Dan may move, but neither open the door nor bar anybody.
        ranks = ((AMY, 100), (BOB, 60), (DAN, 30))
        story = gathered(ranks, [("move", 30)])
        self.assert_barred("rank", story.web.hall(), story.web.now(), DAN)
        hall, state = scene(seats={AMY: "in", DAN: "in"}, people=ranks, wanted=[("move", 30)])
        moved(hall, state, DAN, rules=1)
        hall, state = scene(seats={AMY: "in", DAN: "in", EVE: "barred"}, people=ranks, wanted=[("move", 30)])
        self.assert_barred("rank", hall, state, DAN)
        hall, state = scene(seats={AMY: "in", DAN: "in", EVE: "barred"}, people=ranks, wanted=[("move", 30), ("bar", 30)])
        moved(hall, state, DAN, rules=1)
        # One who is barred and has no less.
        hall, state = scene(seats={AMY: "in", DAN: "in", BOB: "barred"}, people=ranks, wanted=[("move", 30), ("bar", 30)])
        self.assert_barred("above", hall, state, DAN)
        hall, state = scene(seats={AMY: "in", DAN: "in", BOB: "barred", EVE: "barred"}, people=ranks, door="open",
                            wanted=[("move", 30), ("bar", 40), ("door", 10)])
        self.assert_barred("rank", hall, state, DAN)

    def test_of_two_the_first(self):
        ranks = ((AMY, 100), (DAN, 30))
        # The move itself ahead of the deeds; the door ahead of the bars.
        hall, state = scene(seats={AMY: "in", DAN: "out", "zoe@ash": "barred"}, people=ranks, door="open")
        self.assert_barred("seat", hall, state, DAN)
        hall, state = scene(seats={AMY: "barred", DAN: "in"}, people=ranks, door="open",
                            wanted=[("bar", 0), ("door", 0), ("move", 0)])
        self.assert_barred("above", hall, state, DAN)
        hall, state = scene(seats={AMY: "barred", DAN: "in"}, people=ranks, door="open",
                            wanted=[("bar", 0), ("move", 0)])
        self.assert_barred("rank", hall, state, DAN)


class Kept(unittest.TestCase):
    def assert_kept(self, is_one, one, two):
        with Unchanged(self, *one, *two):
            self.assertIs(is_kept(*one, *two), is_one)
            self.assertIs(is_kept(*two, *one), is_one)
            self.assertIs(is_kept(hall=one[0], state=one[1], other=two[0], later=two[1]), is_one)
            self.assertIs(is_kept(turned(one[0]), turned(one[1]), *two), is_one)

    def test_the_same(self):
        one = scene(seats={AMY: "in", EVE: "barred"}, people=[(AMY, 100), (BOB, 50)], wanted=[("say", 5)], door="open")
        self.assert_kept(True, one, one)
        # Neither who began, nor rules, nor other seats, nor moves count; nor ranks of 0, nor words wanted as ever.
        two = scene(began=BOB, rules=2, seats={AMY: "out", BOB: "called", EVE: "barred"},
                    people=[(AMY, 100), (BOB, 50), (CYD, 0)], wanted=[("bar", 50), ("call", 0), ("say", 5)], door="open")
        two[0][("birch", 50)] = deed(("birch", 50), "move", BOB, leave=[("birch", 0)], after=[("birch", 0)])
        two[1][MOVE] = ("birch", 50)
        self.assert_kept(True, one, two)

    def test_without_ranks_and_a_door(self):
        self.assert_kept(True, scene(seats={AMY: "in"}), scene(people=[(AMY, 100)], wanted=[], door="asked"))
        self.assert_kept(True, scene(), scene(door="asked"))
        self.assert_kept(False, scene(), scene(began=BOB))
        self.assert_kept(False, scene(), ({}, {}))
        self.assert_kept(True, ({}, {}), scene(people=[(AMY, 0)]))
        self.assert_kept(True, ({}, {}), ({}, {}))

    def test_one_thing_otherwise(self):
        base = {"seats": {AMY: "in", EVE: "barred"}, "people": [(AMY, 100), (BOB, 50)], "wanted": [("say", 5)],
                "door": "open"}
        one = scene(**base)
        for change in ({"seats": {AMY: "in"}}, {"seats": {AMY: "in", FAY: "barred"}}, {"seats": {AMY: "barred"}},
                       {"seats": {AMY: "in", EVE: "barred", FAY: "barred"}}, {"seats": {AMY: "in", EVE: "out"}},
                       {"people": [(AMY, 100)]}, {"people": [(AMY, 100), (BOB, 51)]}, {"people": [(AMY, 100), (CYD, 50)]},
                       {"people": [(AMY, 100), (BOB, 50), (CYD, 1)]}, {"wanted": []}, {"wanted": [("say", 6)]},
                       {"door": "asked"}, {"door": None}):
            self.assert_kept(False, one, scene(**{**base, **change}))
        for word in ("bar", "call", "door", "move", "out", "ranks", "strike"):
            self.assert_kept(False, one, scene(**{**base, "wanted": [("say", 5), (word, 7)]}))

    def test_keys_that_are_there(self):
        one = scene(seats={EVE: "barred"}, door="open", people=[(AMY, 60)])
        for key in (seat(EVE), DOOR, RANKS):
            state = {other: name for other, name in one[1].items() if other != key}
            self.assert_kept(False, one, (one[0], state))


if __name__ == "__main__":
    unittest.main()

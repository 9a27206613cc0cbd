"""[8], and [2] and [6] of it: ranks, wanted ranks, seats, the door, all people with a rank."""

import unittest

from branchedhall.deeds import WORDS
from branchedhall.ranks import door_in, rank_in, ranked, seat_in, wanted_in
from tests.halls import AMY, BEGIN, BOB, CYD, DAN, DOOR, MOVE, RANKS, Unchanged, deed, hall_of, scene, seat, turned

STRANGERS = (BOB, CYD, DAN, "amy@birch", "ash@amy", "a@a")
DEFAULTS = {"bar": 50, "call": 0, "door": 50, "move": 50, "out": 50, "ranks": 50, "say": 0, "strike": 50}


class Ranks(unittest.TestCase):
    def assert_ranks(self, hall, state, ranks):
        for person in (AMY,) + STRANGERS:
            self.assertEqual(rank_in(hall, state, person), ranks.get(person, 0), person)
            self.assertEqual(rank_in(person=person, state=state, hall=hall), ranks.get(person, 0), person)
        self.assertEqual(ranked(hall, state), {person: rank for person, rank in ranks.items() if rank > 0})
        self.assertEqual(ranked(state=state, hall=hall), ranked(hall, state))

    def test_without_a_ranks_deed(self):
        self.assert_ranks(*scene(), {AMY: 100})
        self.assert_ranks(*scene(began=BOB), {BOB: 100})
        self.assert_ranks(*scene(rules=2, seats={AMY: "out", BOB: "in"}, door="open"), {AMY: 100})

    def test_without_a_begin(self):
        self.assert_ranks({}, {}, {})
        self.assert_ranks(*scene(began=None), {})
        self.assert_ranks(*scene(began=None, seats={AMY: "in", BOB: "in"}, door="open"), {})

    def test_a_ranks_deed_without_a_begin(self):
        self.assert_ranks(*scene(began=None, people=((AMY, 7), (BOB, 0))), {AMY: 7})

    def test_with_a_ranks_deed(self):
        self.assert_ranks(*scene(people=((AMY, 60), (BOB, 1), (CYD, 100))), {AMY: 60, BOB: 1, CYD: 100})
        self.assert_ranks(*scene(people=((AMY, 60), (BOB, 0))), {AMY: 60})

    def test_who_began_isnt_told_there(self):
        self.assert_ranks(*scene(people=((BOB, 50),)), {BOB: 50})
        self.assert_ranks(*scene(people=((AMY, 0),)), {})
        self.assert_ranks(*scene(wanted=()), {})
        self.assert_ranks(*scene(wanted=(("say", 10),)), {})

    def test_the_states_own_deeds_alone(self):
        first, other = deed(("ash", 0), "begin", AMY), deed(("birch", 0), "begin", BOB)
        low = deed(("ash", 1), "ranks", body=(((AMY, 10),), ()))
        high = deed(("ash", 2), "ranks", body=(((AMY, 20), (CYD, 5)), ()))
        hall = hall_of(first, other, low, high)
        self.assert_ranks(hall, {BEGIN: ("ash", 0)}, {AMY: 100})
        self.assert_ranks(hall, {BEGIN: ("birch", 0)}, {BOB: 100})
        self.assert_ranks(hall, {BEGIN: ("birch", 0), RANKS: ("ash", 1)}, {AMY: 10})
        self.assert_ranks(hall, {RANKS: ("ash", 2), BEGIN: ("birch", 0)}, {AMY: 20, CYD: 5})

    def test_the_dict_is_the_askers_own(self):
        for hall, state in (scene(), scene(people=((AMY, 60), (BOB, 1))), scene(began=None)):
            with Unchanged(self, hall, state):
                told = ranked(hall, state)
                again = dict(told)
                told[BOB] = 99
                told[DAN] = 1
                told.pop(AMY, None)
                self.assertEqual(ranked(hall, state), again)
                self.assertIsNot(ranked(hall, state), ranked(hall, state))
                kept = ranked(hall, state)
            hall.clear()
            state.clear()
            self.assertEqual(kept, again)

    def test_the_order_of_keys(self):
        hall, state = scene(people=((AMY, 60), (BOB, 1), (CYD, 3)), seats={AMY: "in", BOB: "out"}, door="open")
        told = ranked(hall, state)
        self.assertEqual(list(ranked(turned(hall), turned(state)).items()), list(told.items()))
        self.assertIs(type(told), dict)


class Wanted(unittest.TestCase):
    def assert_wanted(self, hall, state, **wanted):
        for word in WORDS:
            rank = wanted.get(word, DEFAULTS[word])
            self.assertEqual(wanted_in(hall, state, word), rank, word)
            self.assertEqual(wanted_in(word=word, state=state, hall=hall), rank, word)

    def test_words_that_arent_told(self):
        self.assert_wanted({}, {})
        self.assert_wanted(*scene())
        self.assert_wanted(*scene(wanted=()))
        self.assert_wanted(*scene(people=((AMY, 70),)))

    def test_words_that_are_told(self):
        for word in WORDS:
            for rank in (0, 1, 50, 100):
                self.assert_wanted(*scene(wanted=((word, rank),)), **{word: rank})
        self.assert_wanted(*scene(wanted=[(word, 7) for word in WORDS]), **dict.fromkeys(WORDS, 7))
        self.assert_wanted(*scene(people=((AMY, 1),), wanted=(("call", 30), ("ranks", 0))), call=30, ranks=0)
        self.assert_wanted(*scene(began=None, wanted=(("say", 9),)), say=9)

    def test_nothing_is_changed(self):
        hall, state = scene(people=((AMY, 1),), wanted=(("call", 30), ("ranks", 0)))
        with Unchanged(self, hall, state):
            for word in WORDS * 2:
                wanted_in(hall, state, word)
        self.assertEqual(wanted_in(turned(hall), turned(state), "call"), 30)


class Seats(unittest.TestCase):
    def assert_seat(self, hall, state, person, body):
        self.assertEqual(seat_in(hall, state, person), body)
        self.assertEqual(seat_in(person=person, hall=hall, state=state), body)

    def test_each_seat(self):
        for body in ("in", "out", "called", "barred"):
            for person in (AMY, BOB):
                hall, state = scene(seats={person: body})
                self.assert_seat(hall, state, person, body)
                self.assert_seat(hall, state, DAN, "out")

    def test_out_where_there_is_none(self):
        for hall, state in ((({}), {}), scene(), scene(door="open"), scene(people=((AMY, 60),))):
            for person in (AMY,) + STRANGERS:
                self.assert_seat(hall, state, person, "out")

    def test_it_is_that_of_about(self):
        hall = hall_of(deed(("ash", 0), "begin", AMY), deed(("ash", 1), "seat", AMY, BOB, "called"))
        state = {BEGIN: ("ash", 0), seat(BOB): ("ash", 1)}
        self.assert_seat(hall, state, BOB, "called")
        self.assert_seat(hall, state, AMY, "out")

    def test_what_the_state_has_counts(self):
        hall = hall_of(deed(("ash", 0), "begin", AMY), deed(("ash", 1), "seat", AMY, AMY, "in"),
                       deed(("ash", 2), "seat", AMY, AMY, "out"))
        self.assert_seat(hall, {seat(AMY): ("ash", 1)}, AMY, "in")
        self.assert_seat(hall, {seat(AMY): ("ash", 2)}, AMY, "out")
        self.assert_seat(hall, {BEGIN: ("ash", 0)}, AMY, "out")

    def test_the_door(self):
        for door in ("open", "asked"):
            hall, state = scene(door=door)
            with Unchanged(self, hall, state):
                self.assertEqual(door_in(hall, state), door)
                self.assertEqual(door_in(state=state, hall=hall), door)
            self.assertEqual(door_in(hall, {BEGIN: state[BEGIN]}), "asked")
        self.assertEqual(door_in({}, {}), "asked")
        self.assertEqual(door_in(*scene(seats={AMY: "in"}, people=((AMY, 60),))), "asked")

    def test_a_move_changes_neither(self):
        hall = hall_of(deed(("ash", 0), "begin", AMY), deed(("ash", 1), "move", AMY), deed(("ash", 2), "door", AMY))
        state = {BEGIN: ("ash", 0), MOVE: ("ash", 1)}
        self.assertEqual(door_in(hall, state), "asked")
        self.assertEqual(ranked(hall, state), {AMY: 100})
        self.assertEqual(door_in(hall, {**state, DOOR: ("ash", 2)}), "open")


if __name__ == "__main__":
    unittest.main()

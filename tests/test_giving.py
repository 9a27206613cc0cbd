"""[21], and [2] and [3] (d) of it: givings told, and looked at."""

import random
import unittest

from branchedhall.chains import by_leave, not_given
from branchedhall.giving import giving_of, lets_giving
from branchedhall.orders import line_of
from branchedhall.ranks import rank_in, ranked
from branchedhall.webs import Web
from tests.halls import AMY, BEGIN, BOB, CYD, DAN, FIRST, MOVE, RANKS, Unchanged, chance_hall, chance_state, deed
from tests.halls import hall_of, seat, turned
from tests.samples import ODD_THINGS
from tests.stories import PEOPLE, chance_deeds, gathered, name_of

EVE = "eve@fir"


def rows_of(text):
    """A giving in short: names, people by their first letters, ranks."""
    people = {person[0]: person for person in PEOPLE}
    words = text.split()
    return [(name_of(name), people[letter], int(rank))
            for name, letter, rank in zip(words[::3], words[1::3], words[2::3])]


def told_rank(hall, name, person):
    """The rank that a ranks deed's body tells a person, None where it tells none."""
    return dict(hall[name][4][0]).get(person)


def all_givings(hall, own, here, person, rank):
    """All givings from here on, by trying each ranks deed on the line, word by word."""
    found = []
    line = line_of(hall, here.get(RANKS))
    start = here.get(BEGIN)
    if start is not None and start == own and hall[start][2] == person and rank == 100:
        if all(told_rank(hall, name, person) == 100 for name in line):
            found.append([(start, person, 100)])
    for place, name in enumerate(line):
        if any(told_rank(hall, other, person) != rank for other in line[:place + 1]):
            continue
        named = by_leave(hall, hall[name])
        giver = hall[name][2]
        giving = rank_in(hall, named, giver)
        if rank_in(hall, named, person) != rank and giving >= rank:
            found += [[(name, person, rank)] + rest for rest in all_givings(hall, own, named, giver, giving)]
    return found


def givings_by_words(hall, state, person):
    """All givings of a person's rank by a state."""
    rank = rank_in(hall, state, person)
    return all_givings(hall, state.get(BEGIN), state, person, rank) if rank > 0 else []


class Givings(unittest.TestCase):
    def assert_giving(self, hall, state, person, told):
        rows = None if told is None else rows_of(told)
        with Unchanged(self, hall, state):
            giving = giving_of(hall, state, person)
            self.assertEqual(giving, rows)
            self.assertEqual(giving_of(person=person, state=state, hall=hall), rows)
            self.assertEqual(giving_of(turned(hall), turned(state), person), rows)
            self.assertEqual(givings_by_words(hall, state, person), [] if rows is None else [rows])
            if rows is not None:
                self.assertIs(type(giving), list)
                self.assertTrue(all(type(row) is tuple for row in giving))
                self.assertIs(lets_giving(hall, state, person, rows), True)
                self.assertIs(lets_giving(thing=rows, person=person, state=state, hall=hall), True)
                giving.append(None)
                self.assertEqual(giving_of(hall, state, person), rows)

    def test_of_who_began(self):
        story = gathered()
        hall = story.web.hall()
        for name in story.web.names():
            self.assert_giving(hall, story.web.behind(name), AMY, "ash0 a 100")
        story.add("ash10", "ranks", AMY, body=(((AMY, 100),), ()))
        story.add("ash11", "ranks", AMY, body=(((AMY, 100), (DAN, 1)), ()))
        self.assert_giving(story.web.hall(), story.web.now(), AMY, "ash0 a 100")

    def test_by_a_state_without_a_ranks_deed(self):
        hall = gathered().web.hall()
        state = {BEGIN: FIRST, seat(AMY): ("ash", 1)}
        self.assert_giving(hall, state, AMY, "ash0 a 100")
        self.assert_giving(hall, state, BOB, None)
        self.assert_giving(hall, {}, AMY, None)

    def test_of_the_rank_nought(self):
        story = gathered(((AMY, 100), (BOB, 60), (CYD, 0)))
        for person in (CYD, DAN, EVE):
            self.assert_giving(story.web.hall(), story.web.now(), person, None)
            for thing in ([], None, rows_of("ash0 a 100"), [(("ash", 9), person, 0)],
                          [(("ash", 9), person, 0)] + rows_of("ash0 a 100"), [(FIRST, person, 0)]):
                self.assertIs(lets_giving(story.web.hall(), story.web.now(), person, thing), False)

    def test_of_one_raised_by_another(self):
        story = gathered()
        self.assert_giving(story.web.hall(), story.web.now(), BOB, "ash9 b 60 ash0 a 100")
        story.add("birch2", "ranks", BOB, body=(((AMY, 100), (BOB, 60), (CYD, 60), (DAN, 50)), ()))
        story.add("elm2", "ranks", DAN, body=(((AMY, 100), (BOB, 60), (CYD, 60), (DAN, 50), (EVE, 5)), ()))
        hall, now = story.web.hall(), story.web.now()
        self.assert_giving(hall, now, DAN, "birch2 d 50 ash9 b 60 ash0 a 100")
        self.assert_giving(hall, now, BOB, "ash9 b 60 ash0 a 100")
        self.assertEqual(giving_of(hall, now, EVE),
                         [(("elm", 2), EVE, 5)] + rows_of("birch2 d 50 ash9 b 60 ash0 a 100"))

    def test_of_one_lowered_and_raised_again(self):
        story = gathered()
        story.add("birch2", "ranks", BOB, body=(((AMY, 100), (BOB, 60), (CYD, 60), (DAN, 50)), ()))
        story.add("ash10", "ranks", AMY, body=(((AMY, 100), (BOB, 60), (CYD, 60)), ()))
        story.add("ash11", "ranks", AMY, body=(((AMY, 100), (BOB, 60), (CYD, 60), (DAN, 50)), ()))
        story.add("ash12", "ranks", AMY, body=(((AMY, 100), (CYD, 60), (DAN, 50)), ()))
        hall, now = story.web.hall(), story.web.now()
        self.assert_giving(hall, now, DAN, "ash11 d 50 ash0 a 100")
        self.assert_giving(hall, now, CYD, "ash9 c 60 ash0 a 100")
        self.assert_giving(hall, now, BOB, None)

    def test_of_one_who_lowered_oneself(self):
        story = gathered()
        story.add("ash10", "ranks", AMY, body=(((AMY, 70), (BOB, 60)), ()))
        self.assert_giving(story.web.hall(), story.web.now(), AMY, "ash10 a 70 ash0 a 100")
        self.assert_giving(story.web.hall(), story.web.now(), BOB, "ash9 b 60 ash0 a 100")
        story.add("ash11", "ranks", AMY, body=(((AMY, 70), (BOB, 65)), ()))
        self.assert_giving(story.web.hall(), story.web.now(), BOB, "ash11 b 65 ash10 a 70 ash0 a 100")

    def test_of_one_with_as_much_as_who_began(self):
        story = gathered(((AMY, 100), (BOB, 100)))
        self.assert_giving(story.web.hall(), story.web.now(), BOB, "ash9 b 100 ash0 a 100")
        story.add("birch2", "ranks", BOB, body=(((AMY, 100), (BOB, 100), (DAN, 100)), ()))
        self.assert_giving(story.web.hall(), story.web.now(), DAN, "birch2 d 100 ash9 b 100 ash0 a 100")

    def test_who_began_lowered_and_raised_by_another(self):
        story = gathered(((AMY, 100), (BOB, 100)))
        story.add("ash10", "ranks", AMY, body=(((AMY, 50), (BOB, 100)), ()))
        story.add("birch2", "ranks", BOB, body=(((AMY, 100), (BOB, 100)), ()))
        self.assert_giving(story.web.hall(), story.web.now(), AMY, "birch2 a 100 ash9 b 100 ash0 a 100")

    def test_by_the_line_of_the_state(self):
        # Of two branches each one's state has its own line.
        story = gathered()
        story.add("birch2", "ranks", BOB, body=(((AMY, 100), (BOB, 60), (CYD, 60), (DAN, 50)), ()), after="ash9")
        story.add("ash10", "ranks", AMY, body=(((AMY, 100), (BOB, 60), (CYD, 60), (DAN, 50)), ()), after="ash9")
        hall = story.web.hall()
        first, second = story.behind("birch2", "ash10")
        self.assert_giving(hall, first, DAN, "birch2 d 50 ash9 b 60 ash0 a 100")
        self.assert_giving(hall, second, DAN, "ash10 d 50 ash0 a 100")
        self.assertIs(lets_giving(hall, first, DAN, rows_of("ash10 d 50 ash0 a 100")), False)

    def test_where_there_is_none(self):
        # Another begin than the state's own; none in the state; a giver with too little; one who names no begin.
        story = gathered()
        hall = {**story.web.hall(), ("elm", 0): deed(("elm", 0), "begin", DAN)}
        now = story.web.now()
        self.assert_giving(hall, {**now, BEGIN: ("elm", 0)}, BOB, None)
        self.assert_giving(hall, {RANKS: ("ash", 9)}, BOB, None)
        self.assert_giving(hall, {RANKS: ("ash", 9)}, AMY, None)
        hall = hall_of(deed(FIRST, "begin", AMY), deed(("birch", 1), "ranks", BOB, body=(((BOB, 50),), ())),
                       deed(("birch", 2), "ranks", BOB, body=(((BOB, 60),), ()), leave=[FIRST, ("birch", 1)]),
                       deed(("ash", 5), "seat", AMY, AMY, "in"),
                       deed(("ash", 6), "ranks", AMY, body=(((BOB, 50),), ()), leave=[("ash", 5)]),
                       deed(("ash", 7), "ranks", AMY, body=(((AMY, 100),), ()), leave=[("ash", 5)]))
        for name in (("birch", 1), ("birch", 2), ("ash", 6)):
            self.assert_giving(hall, {BEGIN: FIRST, RANKS: name}, BOB, None)
        # That the ranks deed itself names no begin changes nothing: the line tells amy 100, down to the state's own.
        self.assert_giving(hall, {BEGIN: FIRST, RANKS: ("ash", 7)}, AMY, "ash0 a 100")

    def test_by_chance_of_webs(self):
        many = {}
        for seed in range(80):
            first, deeds = chance_deeds(seed, 50, 0.1)
            web = Web(first)
            for one in deeds:
                web.put(one)
            hall = web.hall()
            for state in [web.now()] + [web.behind(name) for name in hall]:
                for person in PEOPLE:
                    giving = giving_of(hall, state, person)
                    # Each rank above nought has one, of whatever states the state is made.
                    self.assertEqual(givings_by_words(hall, state, person), [] if giving is None else [giving])
                    self.assertEqual(giving is not None, person in ranked(hall, state))
                    self.assertEqual(lets_giving(hall, state, person, giving), giving is not None)
                    many[len(giving or [])] = many.get(len(giving or []), 0) + 1
        self.assertTrue(all(many.get(length, 0) > 0 for length in (0, 1, 2, 3)), many)

    def test_by_chance_of_any_halls(self):
        found = 0
        for seed in range(200):
            hall, chance = chance_hall(seed, 14), random.Random(seed)
            given = all(not_given(hall, one) is None for one in hall.values())
            for at in range(4):
                state = chance_state(chance, hall)
                for person in PEOPLE:
                    givings = givings_by_words(hall, state, person)
                    giving = giving_of(hall, state, person)
                    self.assertEqual(givings, [] if giving is None else [giving])
                    found += giving is not None
                    if given and state.get(BEGIN) == FIRST and [one[1] for one in hall.values()].count("begin") == 1:
                        self.assertEqual(giving is None, rank_in(hall, state, person) == 0)
        self.assertGreater(found, 50)


class LookedAt(unittest.TestCase):
    def setUp(self):
        story = gathered()
        story.add("birch2", "ranks", BOB, body=(((AMY, 100), (BOB, 60), (CYD, 60), (DAN, 50)), ()))
        story.add("ash10", "ranks", AMY, body=(((AMY, 100), (BOB, 60), (DAN, 50)), ()))
        self.hall, self.state = story.web.hall(), story.web.now()
        self.giving = rows_of("birch2 d 50 ash9 b 60 ash0 a 100")

    def assert_is_one(self, is_one, thing, person=DAN):
        with Unchanged(self, self.hall, self.state):
            self.assertIs(lets_giving(self.hall, self.state, person, thing), is_one)

    def test_the_giving(self):
        self.assertEqual(giving_of(self.hall, self.state, DAN), self.giving)
        self.assert_is_one(True, self.giving)
        self.assert_is_one(True, [tuple(list(row)) for row in self.giving])
        for person in (AMY, BOB, CYD, EVE):
            self.assert_is_one(False, self.giving, person)
        self.assert_is_one(True, self.giving[1:], BOB)
        self.assert_is_one(True, self.giving[2:], AMY)

    def test_by_another_state(self):
        for key in (RANKS, BEGIN):
            state = {other: name for other, name in self.state.items() if other != key}
            self.assertIs(lets_giving(self.hall, state, DAN, self.giving), False)
        self.assertIs(lets_giving(self.hall, {**self.state, RANKS: ("birch", 2)}, DAN, self.giving), True)
        self.assertIs(lets_giving(self.hall, {**self.state, RANKS: ("ash", 9)}, DAN, self.giving), False)
        self.assertIs(lets_giving(self.hall, {**self.state, MOVE: FIRST}, DAN, self.giving), True)

    def test_rows_out_twice_and_exchanged(self):
        self.assert_is_one(False, [])
        for at in range(3):
            self.assert_is_one(False, self.giving[:at] + self.giving[at + 1:])
            self.assert_is_one(False, self.giving[:at + 1] + self.giving[at:])
            self.assert_is_one(False, self.giving + [self.giving[at]])
        self.assert_is_one(False, self.giving[::-1])

    def test_one_thing_put_otherwise(self):
        for at, (name, person, rank) in enumerate(self.giving):
            rows = [(other, person, rank) for other in self.hall if other != name]
            rows += [(name, other, rank) for other in (*PEOPLE, EVE, "", "amy") if other != person]
            rows += [(name, person, other) for other in (0, 49, 50, 51, 59, 60, 61, 99, 100, 101, -1, str(rank), rank + 0.0)
                     if other != rank or isinstance(other, float)]
            rows += [[name, person, rank], (list(name), person, rank), (name, person), (name, person, rank, rank),
                     (person, name, rank), (), name, None]
            for row in rows:
                self.assert_is_one(False, self.giving[:at] + [row] + self.giving[at + 1:])

    def test_a_later_ranks_deed_that_tells_it_too(self):
        self.assert_is_one(False, rows_of("ash10 d 50 ash0 a 100"))
        self.assert_is_one(False, rows_of("ash10 d 50 birch2 a 100 ash0 a 100"))

    def test_truths_for_numbers(self):
        hall = hall_of(deed(FIRST, "begin", AMY), deed(("ash", 1), "ranks", AMY, body=(((AMY, 100), (BOB, 1)), ())))
        state = {BEGIN: FIRST, RANKS: ("ash", 1)}
        rest = rows_of("ash0 a 100")
        self.assertIs(lets_giving(hall, state, BOB, [(("ash", 1), BOB, 1)] + rest), True)
        self.assertIs(lets_giving(hall, state, BOB, [(("ash", 1), BOB, True)] + rest), False)
        self.assertIs(lets_giving(hall, state, BOB, [(("ash", True), BOB, 1)] + rest), False)
        self.assertIs(lets_giving(hall, state, BOB, [(("ash", 1), BOB, 1), (("ash", False), AMY, 100)]), False)

    def test_things_of_every_kind(self):
        for thing in ODD_THINGS + (0, "", (), tuple(self.giving), dict(enumerate(self.giving)), iter(self.giving)):
            self.assert_is_one(False, thing)
            self.assert_is_one(False, [thing])
            for at, row in enumerate(self.giving):
                self.assert_is_one(False, self.giving[:at] + [thing] + self.giving[at + 1:])
                for place in range(3):
                    odd = row[:place] + (thing,) + row[place + 1:]
                    self.assert_is_one(False, self.giving[:at] + [odd] + self.giving[at + 1:])


if __name__ == "__main__":
    unittest.main()

"""[11] and [12], with [3] (b) and [2] of them: what deeds name, chains, pasts, depths, chain papers."""

import itertools
import random
import time
import unittest

from branchedhall.chains import by_leave, chain_of, chain_paper, depth_of, lets_chain, not_given, past_of
from tests.halls import AMY, BEGIN, BOB, CYD, DAN, DOOR, FIRST, MOVE, RANKS, Unchanged, chance_hall, deed, hall_of
from tests.halls import ladder, longest, reached, row_of, seat, turned
from tests.samples import ODD_THINGS

AMYS, TOLD, CALL, BOBS, OPENED, SAID = ("ash", 5), ("ash", 4), ("ash", 3), ("birch", 0), ("ash", 2), ("birch", 1)

# A hall in which each deed is given; names run against what stands ahead of what.
GIVEN = hall_of(
    deed(FIRST, "begin", AMY),
    deed(AMYS, "seat", AMY, AMY, "in", [FIRST], [FIRST]),
    deed(TOLD, "ranks", AMY, body=(((AMY, 100), (BOB, 50)), ()), after=[AMYS], leave=[FIRST, AMYS]),
    deed(CALL, "seat", AMY, BOB, "called", [TOLD], [FIRST, AMYS, TOLD]),
    deed(BOBS, "seat", BOB, BOB, "in", [CALL], [FIRST, TOLD, CALL]),
    deed(OPENED, "door", AMY, body="open", after=[TOLD], leave=[FIRST, AMYS, TOLD]),
    deed(SAID, "say", BOB, body="hear, hear", after=[BOBS, OPENED], leave=[FIRST, TOLD, BOBS]),
)


def with_deeds(hall, *deeds):
    """A hall with some deeds more, or in the stead of those by their names."""
    return {**hall, **{one[0]: one for one in deeds}}


def is_paper(hall, name, names):
    """Whether a list of names is a chain paper, as the words say it."""
    return (len(set(names)) == len(names) and names[-1:] == [name]
            and all(set(hall[one][6]) <= set(names[:at]) for at, one in enumerate(names))
            and all(not_given(hall, hall[one]) is None for one in names))


class ByWhatIsNamed(unittest.TestCase):
    def assert_state(self, hall, one, state):
        with Unchanged(self, hall):
            told = by_leave(hall, one)
            self.assertEqual(told, state)
            self.assertEqual(by_leave(deed=one, hall=hall), state)
            self.assertEqual(list(by_leave(turned(hall), one).items()), list(told.items()))
            told[MOVE] = FIRST
            self.assertEqual(by_leave(hall, one), state)

    def test_each_of_a_hall(self):
        self.assert_state(GIVEN, GIVEN[FIRST], {})
        self.assert_state(GIVEN, GIVEN[AMYS], {BEGIN: FIRST})
        self.assert_state(GIVEN, GIVEN[CALL], {BEGIN: FIRST, seat(AMY): AMYS, RANKS: TOLD})
        self.assert_state(GIVEN, GIVEN[BOBS], {BEGIN: FIRST, RANKS: TOLD, seat(BOB): CALL})
        self.assert_state(GIVEN, GIVEN[SAID], {BEGIN: FIRST, RANKS: TOLD, seat(BOB): BOBS})

    def test_of_a_deed_that_isnt_there(self):
        self.assert_state(GIVEN, deed(("elm", 9), "say", DAN, leave=[OPENED, BOBS]), {DOOR: OPENED, seat(BOB): BOBS})
        self.assert_state(GIVEN, deed(("elm", 9), "begin", DAN), {})

    def test_those_without_a_key(self):
        strike = deed(("ash", 9), "strike", AMY)
        hall = with_deeds(GIVEN, strike)
        self.assert_state(hall, deed(("elm", 9), "say", DAN, leave=[SAID]), {})
        self.assert_state(hall, deed(("elm", 9), "say", DAN, leave=[SAID, FIRST, ("ash", 9)]), {BEGIN: FIRST})

    def test_of_two_with_one_key_the_last(self):
        self.assert_state(GIVEN, deed(("elm", 9), "say", DAN, leave=[CALL, BOBS]), {seat(BOB): BOBS})
        two = with_deeds(GIVEN, deed(("ash", 10), "ranks", AMY), deed(("ash", 9), "ranks", AMY))
        self.assert_state(two, deed(("elm", 9), "say", DAN, leave=[("ash", 9), ("ash", 10)]), {RANKS: ("ash", 10)})
        self.assert_state(two, deed(("elm", 9), "say", DAN, leave=[("ash", 9), TOLD]), {RANKS: ("ash", 9)})

    def test_leave_counts_not_after(self):
        self.assert_state(GIVEN, deed(("elm", 9), "say", DAN, after=[TOLD, BOBS], leave=[FIRST]), {BEGIN: FIRST})


class Given(unittest.TestCase):
    def assert_rule(self, rule, one, hall=GIVEN):
        with Unchanged(self, hall):
            self.assertEqual(not_given(hall, one), rule)
            self.assertEqual(not_given(deed=one, hall=hall), rule)
        self.assertEqual(not_given(turned(hall), one), rule)
        self.assertEqual(not_given(with_deeds(hall, one), one), rule)

    def test_all_that_are_given(self):
        for one in GIVEN.values():
            self.assert_rule(None, one)

    def test_deeds_that_arent_there(self):
        self.assert_rule(None, deed(("elm", 0), "begin", DAN))
        self.assert_rule(None, deed(("ash", 9), "say", AMY, leave=[FIRST, AMYS]))
        self.assert_rule(None, deed(("ash", 9), "say", AMY, leave=[FIRST, AMYS, TOLD]))
        self.assert_rule(None, deed(("elm", 9), "seat", DAN, DAN, "in", leave=[FIRST, TOLD, OPENED]))

    def test_after_doesnt_matter(self):
        for after in ([FIRST], [SAID], [BOBS, OPENED, AMYS]):
            self.assert_rule(None, deed(("ash", 9), "say", AMY, after=after, leave=[FIRST, AMYS, TOLD]))

    def test_twice(self):
        hall = with_deeds(GIVEN, deed(("birch", 7), "ranks", BOB), deed(("birch", 8), "seat", BOB, BOB, "out"),
                          deed(("elm", 0), "begin", DAN), deed(("ash", 8), "strike", AMY))
        for more in (("birch", 7), ("elm", 0), SAID, ("ash", 8)):
            self.assert_rule("twice", deed(("ash", 9), "say", AMY, leave=[FIRST, AMYS, TOLD, more]), hall)
        self.assert_rule("twice", deed(("birch", 9), "say", BOB, leave=[FIRST, TOLD, BOBS, CALL]), hall)
        self.assert_rule("twice", deed(("birch", 9), "say", BOB, leave=[FIRST, BOBS, ("birch", 8)]), hall)
        self.assert_rule("twice", deed(("ash", 9), "say", AMY, leave=[SAID]), hall)
        self.assert_rule("twice", deed(("ash", 9), "say", AMY, leave=[SAID, ("ash", 8)]), hall)

    def test_other(self):
        move = deed(("ash", 8), "move", AMY, leave=[FIRST, AMYS, TOLD])
        hall = with_deeds(GIVEN, move)
        for more in (BOBS, OPENED, ("ash", 8)):
            self.assert_rule("other", deed(("ash", 9), "say", AMY, leave=[FIRST, AMYS, TOLD, more]), hall)
            self.assert_rule("other", deed(("ash", 9), "say", AMY, leave=[more]), hall)
        self.assert_rule("other", deed(("ash", 9), "seat", AMY, BOB, "out", leave=[FIRST, AMYS, TOLD, OPENED]), hall)
        self.assert_rule("other", deed(("birch", 9), "seat", BOB, BOB, "in", leave=[FIRST, AMYS, TOLD, BOBS]), hall)
        self.assert_rule(None, deed(("birch", 9), "seat", BOB, BOB, "in", leave=[FIRST, TOLD, BOBS, OPENED]), hall)

    def test_twice_goes_ahead_of_other(self):
        self.assert_rule("twice", deed(("ash", 9), "say", AMY, leave=[FIRST, AMYS, TOLD, OPENED, CALL, BOBS]))
        self.assert_rule("twice", deed(("ash", 9), "say", AMY, leave=[OPENED, SAID]))

    def test_other_goes_ahead_of_what_bars(self):
        self.assert_rule("other", deed(("elm", 9), "say", DAN, leave=[OPENED]))
        self.assert_rule("other", deed(("elm", 9), "say", DAN, leave=[FIRST, TOLD, OPENED]))

    def test_what_bars_by_what_is_named(self):
        barred = deed(("ash", 8), "seat", AMY, BOB, "barred", leave=[FIRST, AMYS, TOLD, BOBS])
        hall = with_deeds(GIVEN, barred)
        rows = (
            ("unbegun", deed(("ash", 9), "say", AMY, leave=[AMYS, TOLD])),
            ("other", deed(("birch", 9), "seat", BOB, AMY, "in", leave=[FIRST, AMYS, TOLD, BOBS, OPENED, CALL][:3])),
            ("barred", deed(("birch", 9), "seat", BOB, BOB, "in", leave=[FIRST, TOLD, ("ash", 8)])),
            ("door", deed(("elm", 9), "seat", DAN, DAN, "in", leave=[FIRST, TOLD])),
            ("seat", deed(("elm", 9), "seat", DAN, DAN, "out", leave=[FIRST, TOLD])),
            ("seat", deed(("birch", 9), "say", BOB, leave=[FIRST, TOLD])),
            ("seat", deed(("birch", 9), "say", BOB, leave=[FIRST, TOLD, CALL])),
            ("there", deed(("ash", 9), "seat", AMY, BOB, "called", leave=[FIRST, AMYS, TOLD, BOBS])),
            ("barred", deed(("ash", 9), "seat", AMY, BOB, "called", leave=[FIRST, AMYS, TOLD, ("ash", 8)])),
            ("rank", deed(("birch", 9), "door", BOB, leave=[FIRST, BOBS])),
            ("above", deed(("birch", 9), "seat", BOB, AMY, "out", leave=[FIRST, AMYS, TOLD, BOBS])),
            ("above", deed(("birch", 9), "ranks", BOB, body=(((AMY, 100), (BOB, 51)), ()), leave=[FIRST, TOLD, BOBS])),
            (None, deed(("birch", 9), "door", BOB, leave=[FIRST, TOLD, BOBS])),
            # What isn't named isn't seen: she began, so she has 100 where no ranks deed is named.
            (None, deed(("ash", 9), "seat", AMY, CYD, "barred", leave=[FIRST, AMYS])),
        )
        for rule, one in rows:
            self.assert_rule(rule, one, hall)


class Ways(unittest.TestCase):
    def assert_way(self, ask, hall, names, told):
        for handed in (list(names), tuple(names)):
            with Unchanged(self, hall, handed):
                found = ask(hall, handed)
                self.assertIs(type(found), list)
                self.assertEqual(found, told)
                self.assertEqual(ask(names=handed, hall=hall), told)
                found.append(("z", 1))
                del found[:1]
                self.assertEqual(ask(hall, handed), told)
            self.assertEqual(ask(turned(hall), handed), told)

    def test_chains(self):
        self.assert_way(chain_of, GIVEN, [], [])
        self.assert_way(chain_of, GIVEN, [FIRST], [FIRST])
        self.assert_way(chain_of, GIVEN, [AMYS], [FIRST, AMYS])
        self.assert_way(chain_of, GIVEN, [BOBS], [FIRST, CALL, TOLD, AMYS, BOBS])
        self.assert_way(chain_of, GIVEN, [SAID], [FIRST, CALL, TOLD, AMYS, BOBS, SAID])
        self.assert_way(chain_of, GIVEN, [OPENED, CALL], [FIRST, OPENED, CALL, TOLD, AMYS])
        self.assert_way(chain_of, GIVEN, [AMYS, FIRST, AMYS, AMYS], [FIRST, AMYS])
        self.assert_way(chain_of, GIVEN, list(GIVEN), sorted(GIVEN))

    def test_pasts(self):
        self.assert_way(past_of, GIVEN, [], [])
        self.assert_way(past_of, GIVEN, [FIRST], [FIRST])
        self.assert_way(past_of, GIVEN, [TOLD], [FIRST, TOLD, AMYS])
        self.assert_way(past_of, GIVEN, [BOBS], [FIRST, CALL, TOLD, AMYS, BOBS])
        self.assert_way(past_of, GIVEN, [SAID], sorted(GIVEN))
        self.assert_way(past_of, GIVEN, [OPENED, CALL, OPENED], [FIRST, OPENED, CALL, TOLD, AMYS])

    def test_leave_is_one_thing_after_another(self):
        hall = hall_of(deed(FIRST, "begin"), deed(("ash", 1), "say", leave=[FIRST]),
                       deed(("ash", 2), "say", after=[("ash", 1)], leave=[FIRST]),
                       deed(("ash", 3), "say", after=[FIRST], leave=[("ash", 2)]))
        self.assert_way(chain_of, hall, [("ash", 3)], [FIRST, ("ash", 2), ("ash", 3)])
        self.assert_way(past_of, hall, [("ash", 3)], [FIRST, ("ash", 3)])
        self.assert_way(past_of, hall, [("ash", 2)], [FIRST, ("ash", 1), ("ash", 2)])
        self.assertEqual(depth_of(hall, ("ash", 3)), 1)
        self.assertEqual(depth_of(hall, ("ash", 2)), 2)

    def test_halls_by_chance(self):
        for seed in range(60):
            hall = chance_hall(seed, 14)
            chance = random.Random(seed)
            for many in (0, 1, 2, 5):
                names = chance.choices(list(hall), k=many)
                self.assertEqual(chain_of(hall, names), reached(hall, names, 6))
                self.assertEqual(past_of(hall, tuple(names)), reached(hall, names, 5))
            for name in hall:
                self.assertEqual(depth_of(hall, name), longest(hall, name, 5))

    def test_ways_that_meet_again_and_again(self):
        hall = ladder(60)
        last = ("ash", 59)
        start = time.monotonic()
        self.assert_way(chain_of, hall, [last], sorted(hall))
        self.assert_way(past_of, hall, [last, ("ash", 58)], sorted(hall))
        self.assertEqual(depth_of(hall, last), 59)
        self.assertIsNone(chain_paper(hall, last))
        self.assertFalse(lets_chain(hall, last, sorted(hall)))
        self.assertLess(time.monotonic() - start, 5)

    def test_a_deep_hall(self):
        hall = row_of(3000)
        last = ("ash", 2999)
        self.assertEqual(chain_of(hall, [last]), sorted(hall))
        self.assertEqual(past_of(hall, [last]), sorted(hall))
        self.assertEqual(depth_of(hall, last), 2999)
        self.assertIsNone(chain_paper(hall, last))


class Depths(unittest.TestCase):
    def assert_depth(self, hall, name, depth):
        with Unchanged(self, hall):
            self.assertEqual(depth_of(hall, name), depth)
            self.assertEqual(depth_of(name=name, hall=hall), depth)
        self.assertEqual(depth_of(turned(hall), name), depth)

    def test_each_of_a_hall(self):
        depths = {FIRST: 0, AMYS: 1, TOLD: 2, CALL: 3, OPENED: 3, BOBS: 4, SAID: 5}
        for name, depth in depths.items():
            self.assert_depth(GIVEN, name, depth)

    def test_ways_of_unlike_length(self):
        names = [("ash", number) for number in range(6)]
        for short, long in itertools.product(range(5), repeat=2):
            # The longer way stands now to the left, now to the right in after.
            hall = {names[0]: deed(names[0], "begin")}
            for ahead, name in zip(names, names[1:5]):
                hall[name] = deed(name, "say", after=[ahead])
            last = ("birch", 0)
            hall[last] = deed(last, "say", after={names[short], names[long]})
            self.assert_depth(hall, last, max(short, long) + 1)

    def test_several_begins(self):
        hall = hall_of(deed(FIRST, "begin"), deed(("elm", 0), "begin"), deed(("ash", 1), "say"),
                       deed(("birch", 1), "say", after=[("elm", 0), ("ash", 1)]),
                       deed(("birch", 2), "say", after=[("elm", 0)]))
        self.assert_depth(hall, ("elm", 0), 0)
        self.assert_depth(hall, ("birch", 1), 2)
        self.assert_depth(hall, ("birch", 2), 1)


class Papers(unittest.TestCase):
    PAPER = [FIRST, AMYS, TOLD, CALL, BOBS, SAID]

    def assert_lets(self, lets, thing, name=SAID, hall=GIVEN):
        self.assertIs(lets_chain(hall, name, thing), lets)
        self.assertIs(lets_chain(thing=thing, name=name, hall=hall), lets)

    def assert_paper(self, paper, name, hall=GIVEN):
        with Unchanged(self, hall):
            told = chain_paper(hall, name)
            self.assertEqual(told, paper)
            self.assertEqual(chain_paper(name=name, hall=hall), paper)
            self.assertEqual(chain_paper(turned(hall), name), paper)
            if paper is not None:
                self.assertIs(type(told), list)
                self.assert_lets(True, told, name, hall)
                told.append(FIRST)
                self.assertEqual(chain_paper(hall, name), paper)

    def test_papers_as_told(self):
        self.assert_paper([FIRST], FIRST)
        self.assert_paper([FIRST, AMYS], AMYS)
        self.assert_paper([FIRST, AMYS, TOLD], TOLD)
        self.assert_paper([FIRST, AMYS, TOLD, OPENED], OPENED)
        self.assert_paper([FIRST, AMYS, TOLD, CALL, BOBS], BOBS)
        self.assert_paper(self.PAPER, SAID)

    def test_a_name_put_in(self):
        for at in range(len(self.PAPER)):
            # What is given may stand there, too, behind those in its own leave.
            self.assert_lets(at >= 3, self.PAPER[:at] + [OPENED] + self.PAPER[at:])
        self.assert_lets(False, self.PAPER + [OPENED])
        self.assert_lets(True, self.PAPER + [OPENED], OPENED)

    def test_a_name_left_out(self):
        for at in range(len(self.PAPER)):
            self.assert_lets(False, self.PAPER[:at] + self.PAPER[at + 1:])
        self.assert_lets(False, [])
        self.assert_lets(False, [SAID])

    def test_a_name_twice(self):
        for at, again in itertools.product(range(len(self.PAPER) + 1), self.PAPER):
            self.assert_lets(False, self.PAPER[:at] + [again] + self.PAPER[at:])
        self.assert_lets(False, [FIRST, FIRST], FIRST)

    def test_names_exchanged(self):
        for low, high in itertools.combinations(range(len(self.PAPER)), 2):
            names = list(self.PAPER)
            names[low], names[high] = names[high], names[low]
            self.assert_lets(False, names)
        hall = with_deeds(GIVEN, deed(("ash", 9), "seat", AMY, CYD, "barred", leave=[FIRST, AMYS, TOLD, ("ash", 8)]),
                          deed(("ash", 8), "seat", CYD, CYD, "in", leave=[FIRST, TOLD, OPENED]))
        names = [FIRST, AMYS, TOLD, OPENED, ("ash", 8), ("ash", 9)]
        self.assert_lets(True, names, ("ash", 9), hall)
        self.assert_lets(True, names[:3] + [CALL] + names[3:], ("ash", 9), hall)

    def test_names_turned_about(self):
        self.assert_lets(False, self.PAPER[::-1])
        self.assert_lets(False, self.PAPER[::-1], FIRST)
        self.assert_lets(False, self.PAPER[:-1][::-1] + [SAID])

    def test_not_at_the_end(self):
        for name in GIVEN:
            self.assert_lets(name == SAID, self.PAPER, name)
        self.assert_lets(False, self.PAPER, ("elm", 7))
        self.assert_lets(False, [FIRST, AMYS], FIRST)

    def test_not_of_the_hall(self):
        for name in (("elm", 7), ("ash", 1), ("birch", 99999)):
            for at in range(len(self.PAPER) + 1):
                self.assert_lets(False, self.PAPER[:at] + [name] + self.PAPER[at:])
            self.assert_lets(False, [name], name)
            self.assert_lets(False, [name], FIRST)

    def test_deeds_that_arent_given(self):
        wrong = deed(TOLD, "ranks", AMY, body=(((AMY, 100), (BOB, 50)), ()), after=[AMYS], leave=[FIRST])
        hall = with_deeds(GIVEN, wrong)
        self.assertEqual(not_given(hall, wrong), "seat")
        for name in GIVEN:
            paper = [one for one in self.PAPER[:5] + [OPENED, SAID] if one in chain_of(hall, [name])]
            self.assert_lets(TOLD not in paper, paper, name, hall)
            self.assert_paper(paper if TOLD not in paper else None, name, hall)
        # One that isn't given and hangs on nothing of the chain still spoils what it stands in.
        self.assert_lets(False, [FIRST, AMYS, ("ash", 9), TOLD], TOLD,
                         with_deeds(GIVEN, deed(("ash", 9), "say", AMY, leave=[FIRST])))

    def test_each_rule_spoils_a_paper(self):
        for rule, leave in (("twice", [FIRST, SAID]), ("other", [FIRST, OPENED]), ("seat", [FIRST]), ("unbegun", [AMYS])):
            one = deed(("ash", 9), "say", AMY, leave=leave)
            hall = with_deeds(GIVEN, one)
            self.assertEqual(not_given(hall, one), rule)
            names = self.PAPER + [OPENED, ("ash", 9)]
            self.assert_lets(False, names, ("ash", 9), hall)
            self.assert_paper(None, ("ash", 9), hall)
            self.assert_paper(self.PAPER, SAID, hall)

    def test_things_of_other_kinds(self):
        for thing in ODD_THINGS + (tuple(self.PAPER), dict.fromkeys(self.PAPER), iter(self.PAPER), "", "ash:0", 0, FIRST,
                                   (FIRST,), str(self.PAPER), [self.PAPER], {FIRST}):
            self.assert_lets(False, thing)
            self.assert_lets(False, thing, FIRST)

    def test_things_of_other_kinds_within(self):
        odd = ODD_THINGS + ("ash", "ash:0", 0, (), ["ash", 0], ("ash", 0.0), ("ash", False), ("ash", 0, 0), ("ash", "0"),
                            (["ash"], 0), ("ash", [0]), ("ash", None), {"ash": 0}, GIVEN[FIRST], ((), ()))
        for thing in odd:
            self.assert_lets(False, [thing])
            self.assert_lets(False, [thing], FIRST)
            for at in range(len(self.PAPER)):
                self.assert_lets(False, self.PAPER[:at] + [thing] + self.PAPER[at + 1:])
                self.assert_lets(False, self.PAPER[:at] + [thing] + self.PAPER[at:])
            self.assert_lets(False, self.PAPER + [thing])
        within = []
        within.append(within)
        self.assert_lets(False, within)

    def test_a_thing_isnt_changed(self):
        for thing in (list(self.PAPER), self.PAPER[::-1], [None, [FIRST]], {"a": [FIRST]}):
            with Unchanged(self, GIVEN, thing):
                lets_chain(GIVEN, SAID, thing)

    def test_ordered_by_the_longest_way_then_by_name(self):
        # Both seats are one step from the begin; the ranks deed is two, though it names the begin, too.
        deeds = [deed(("ash", 0), "begin", AMY), deed(("ash", 9), "seat", AMY, AMY, "in"),
                 deed(("ash", 1), "door", AMY, leave=[("ash", 0), ("ash", 9)]),
                 deed(("ash", 3), "ranks", AMY, body=(((AMY, 100),), (("door", 0),)), leave=[("ash", 0), ("ash", 9)]),
                 deed(("birch", 2), "seat", BOB, BOB, "in", leave=[("ash", 0), ("ash", 1), ("ash", 3)]),
                 deed(("ash", 2), "seat", AMY, BOB, "barred", leave=[("ash", 0), ("ash", 9), ("ash", 3), ("birch", 2)]),
                 deed(("ash", 4), "seat", AMY, BOB, "out", leave=[("ash", 0), ("ash", 9), ("ash", 3), ("ash", 2)])]
        hall = hall_of(*deeds)
        self.assert_paper([("ash", 0), ("ash", 9), ("ash", 1), ("ash", 3), ("birch", 2), ("ash", 2), ("ash", 4)],
                          ("ash", 4), hall)
        self.assert_lets(True, [("ash", 0), ("ash", 9), ("ash", 3), ("ash", 1), ("birch", 2)], ("birch", 2), hall)
        self.assert_paper([("ash", 0), ("ash", 9), ("ash", 1), ("ash", 3), ("birch", 2)], ("birch", 2), hall)


class PapersByChance(unittest.TestCase):
    def test_there_just_where_each_is_given(self):
        told = 0
        for seed in range(150):
            hall = chance_hall(seed, 14)
            for name in hall:
                chain = reached(hall, [name], 6)
                paper = chain_paper(hall, name)
                if all(not_given(hall, hall[one]) is None for one in chain):
                    told += len(chain) > 3
                    self.assertEqual(paper, sorted(chain, key=lambda one: (longest(hall, one, 6), one)))
                    self.assertTrue(lets_chain(hall, name, paper))
                    self.assertEqual(paper[-1], name)
                else:
                    self.assertIsNone(paper)
        self.assertGreater(told, 50)

    def test_whatever_is_let_by_is_such(self):
        let = 0
        for seed in range(60):
            hall = chance_hall(seed, 8)
            chance = random.Random(seed)
            for name in hall:
                for thing in chance_papers(chance, hall, name):
                    lets = lets_chain(hall, name, thing)
                    self.assertIs(lets, is_paper(hall, name, thing))
                    let += lets
                    if lets:
                        self.assertIsNotNone(chain_paper(hall, name))
                        self.assertLessEqual(set(chain_of(hall, [name])), set(thing))
        self.assertGreater(let, 200)


def chance_papers(chance, hall, name):
    """Lists of names by chance: some by the ways of leave, some changed a little."""
    chain = sorted(reached(hall, [name], 6), key=lambda one: longest(hall, one, 6))
    more = sorted(hall, key=lambda one: (one == name, longest(hall, one, 6)))
    for names in (chain, more):
        yield list(names)
        at = chance.randrange(len(names))
        yield names[:at] + names[at + 1:]
        yield names[:at] + [chance.choice(list(hall))] + names[at:]
        yield chance.sample(names, len(names))
        yield chance.sample(names[:-1], len(names) - 1) + [name]


if __name__ == "__main__":
    unittest.main()

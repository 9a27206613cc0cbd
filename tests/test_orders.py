"""[13] to [15], and [2] of them: what is alike and what differs, deeds of rank, and the orders."""

import itertools
import random
import time
import unittest

from branchedhall.errors import NoStates
from branchedhall.orders import along, by_leaves, far_of, line_of, of_rank, parted
from tests.halls import AMY, BEGIN, BOB, CYD, DAN, DOOR, FIRST, MOVE, RANKS, Unchanged, chance_hall, chance_state, deed
from tests.halls import hall_of, ladder, longest, reached, row_of, seat, turned
from tests.samples import ODD_THINGS

SIT, LOW, HIGH, CALL, OPENED, SAID = ("ash", 1), ("ash", 2), ("ash", 3), ("ash", 4), ("ash", 5), ("ash", 6)

# The ranks deeds are two branches; the door hangs on the one, what is said on the other.
BRANCHED = hall_of(
    deed(FIRST, "begin", AMY),
    deed(SIT, "seat", AMY, AMY, "in", [FIRST], [FIRST]),
    deed(LOW, "ranks", AMY, body=(((AMY, 60),), ()), after=[SIT], leave=[FIRST, SIT]),
    deed(HIGH, "ranks", AMY, body=(((AMY, 90),), ()), after=[SIT], leave=[FIRST, SIT]),
    deed(CALL, "seat", AMY, BOB, "called", [HIGH], [FIRST, SIT, HIGH]),
    deed(OPENED, "door", AMY, body="open", after=[LOW], leave=[FIRST, SIT, LOW]),
    deed(SAID, "say", AMY, after=[CALL], leave=[FIRST, SIT, HIGH]),
)
WITH_LOW = {BEGIN: FIRST, seat(AMY): SIT, RANKS: LOW, DOOR: OPENED}
WITH_HIGH = {BEGIN: FIRST, seat(AMY): SIT, RANKS: HIGH, seat(BOB): CALL}


class Differences(unittest.TestCase):
    def assert_parted(self, hall, states, alike, differ):
        with Unchanged(self, hall, states, *states):
            told = parted(hall, states)
            self.assertIs(type(told), tuple)
            self.assertEqual(told, (alike, differ))
            self.assertEqual([type(thing) for thing in told], [dict, list])
            self.assertEqual(parted(states=states, hall=hall), told)
            told[0][MOVE] = FIRST
            told[1].append(("z", 1))
            self.assertEqual(parted(hall, states), (alike, differ))
        rows = list(parted(hall, states)[0].items())
        for order in itertools.islice(itertools.permutations(states), 24):
            again = parted(turned(hall), [turned(state) for state in order])
            self.assertEqual(again, (alike, differ))
            self.assertEqual(list(again[0].items()), rows)

    def test_one_state(self):
        for state in (WITH_LOW, WITH_HIGH, {}, {BEGIN: FIRST}, {DOOR: OPENED}):
            self.assert_parted(BRANCHED, [state], state, [])
        self.assertIsNot(parted(BRANCHED, [WITH_LOW])[0], WITH_LOW)

    def test_alike_ones(self):
        for many in range(1, 7):
            self.assert_parted(BRANCHED, [dict(WITH_LOW) for at in range(many)], WITH_LOW, [])
            self.assert_parted(BRANCHED, [{}] * many, {}, [])

    def test_two_that_differ(self):
        self.assert_parted(BRANCHED, [WITH_LOW, WITH_HIGH], {BEGIN: FIRST, seat(AMY): SIT}, [LOW, HIGH, CALL, OPENED])

    def test_a_key_that_one_lacks(self):
        self.assert_parted(BRANCHED, [{BEGIN: FIRST}, {BEGIN: FIRST, seat(AMY): SIT}], {BEGIN: FIRST}, [SIT])
        self.assert_parted(BRANCHED, [{BEGIN: FIRST}, {}], {}, [FIRST])

    def test_a_name_in_all_chains_may_differ(self):
        # All chains have the seat, but one state lacks it, or has another for it.
        self.assert_parted(BRANCHED, [{BEGIN: FIRST, seat(AMY): SIT, RANKS: LOW}, {BEGIN: FIRST, RANKS: LOW}],
                           {BEGIN: FIRST, RANKS: LOW}, [SIT])
        gone = deed(("ash", 7), "seat", AMY, AMY, "out", [SIT], [FIRST, SIT])
        hall = hall_of(gone, *BRANCHED.values())
        self.assert_parted(hall, [{BEGIN: FIRST, seat(AMY): SIT}, {BEGIN: FIRST, seat(AMY): ("ash", 7)}],
                           {BEGIN: FIRST}, [SIT, ("ash", 7)])

    def test_in_the_chains_alone(self):
        states = [{BEGIN: FIRST, DOOR: OPENED}, {BEGIN: FIRST, seat(BOB): CALL}]
        self.assert_parted(BRANCHED, states, {BEGIN: FIRST}, [LOW, HIGH, CALL, OPENED])
        self.assert_parted(BRANCHED, [{BEGIN: FIRST}, {BEGIN: FIRST, RANKS: LOW}], {BEGIN: FIRST}, [SIT, LOW])
        self.assert_parted(BRANCHED, [{}, {RANKS: LOW}], {}, [FIRST, SIT, LOW])

    def test_deeds_without_a_key_in_the_chains(self):
        hall = hall_of(deed(("ash", 7), "door", AMY, leave=[SAID]), *BRANCHED.values())
        self.assert_parted(hall, [{BEGIN: FIRST, RANKS: HIGH}, {BEGIN: FIRST, RANKS: HIGH, DOOR: ("ash", 7)}],
                           {BEGIN: FIRST, RANKS: HIGH}, [SAID, ("ash", 7)])

    def test_by_leave_not_by_after(self):
        hall = hall_of(deed(FIRST, "begin"), deed(SIT, "seat"), deed(LOW, "door", after=[SIT], leave=[FIRST]))
        self.assert_parted(hall, [{BEGIN: FIRST}, {BEGIN: FIRST, DOOR: LOW}], {BEGIN: FIRST}, [LOW])

    def test_six_states(self):
        states = [{BEGIN: FIRST}, {BEGIN: FIRST, seat(AMY): SIT}, {BEGIN: FIRST, RANKS: LOW},
                  {BEGIN: FIRST, RANKS: HIGH}, {BEGIN: FIRST, seat(BOB): CALL}, {BEGIN: FIRST, DOOR: OPENED}]
        self.assert_parted(BRANCHED, states, {BEGIN: FIRST}, [SIT, LOW, HIGH, CALL, OPENED])
        self.assert_parted(BRANCHED, [WITH_LOW] * 5 + [WITH_HIGH], {BEGIN: FIRST, seat(AMY): SIT},
                           [LOW, HIGH, CALL, OPENED])
        most = [WITH_LOW] * 5
        for key in WITH_LOW:
            one = {other: name for other, name in WITH_LOW.items() if other != key}
            told = parted(BRANCHED, most + [one])
            self.assertEqual(told[0], one)
            self.assertIn(WITH_LOW[key], told[1])

    def test_states_by_chance(self):
        for seed in range(150):
            hall = chance_hall(seed, 14)
            chance = random.Random(seed)
            states = [chance_state(chance, hall) for at in range(chance.randint(1, 6))]
            keys = [key for key in states[0] if all(key in state and state[key] == states[0][key] for state in states)]
            alike = {key: states[0][key] for key in keys}
            chains = [set(reached(hall, state.values(), 6)) for state in states]
            differ = set.union(*chains) - set.intersection(*chains)
            differ |= {name for state in states for key, name in state.items() if key not in keys}
            self.assertEqual(parted(hall, states), (alike, sorted(differ)))


class NoListsOfStates(unittest.TestCase):
    def assert_refused(self, states, number):
        for ask in (lambda: parted(BRANCHED, states), lambda: parted(hall=BRANCHED, states=states)):
            with self.assertRaises(NoStates) as caught:
                ask()
            self.assertEqual(caught.exception.number, number)
            self.assertEqual(type(caught.exception.number), type(number))

    def test_no_list(self):
        for thing in ODD_THINGS + (0, 1, "", (), ({},), (WITH_LOW, WITH_HIGH), WITH_LOW, {0: {}}, iter([{}])):
            if not isinstance(thing, list):
                self.assert_refused(thing, None)

    def test_too_few_and_too_many(self):
        self.assert_refused([], None)
        for many in (7, 8, 20):
            self.assert_refused([WITH_LOW] * many, None)
            self.assert_refused([None] * many, None)

    def test_things_that_are_no_dicts(self):
        for thing in ODD_THINGS + (0, "", (), list(WITH_LOW.items()), list(WITH_LOW), [{}]):
            if isinstance(thing, dict):
                continue
            for many in range(1, 7):
                for at in range(many):
                    states = [dict(WITH_LOW) for place in range(many)]
                    states[at] = thing
                    self.assert_refused(states, at)

    def test_the_first_of_several(self):
        self.assert_refused([WITH_LOW, None, WITH_HIGH, (), []], 1)
        self.assert_refused([None, None], 0)
        self.assert_refused([{}, {}, {}, {}, [], None], 4)

    def test_what_is_refused_isnt_changed(self):
        states = [dict(WITH_LOW), None, [WITH_HIGH]]
        with Unchanged(self, states, BRANCHED):
            self.assert_refused(states, 1)


class OfRank(unittest.TestCase):
    def assert_of_rank(self, hall, names, told):
        with Unchanged(self, hall, names):
            found = of_rank(hall, names)
            self.assertIs(type(found), list)
            self.assertEqual(found, told)
            self.assertEqual(of_rank(names=names, hall=hall), told)
            found.append(("z", 1))
            self.assertEqual(of_rank(hall, names), told)
        self.assertEqual(of_rank(turned(hall), names[::-1]), told)

    def test_each_kind(self):
        name = ("ash", 1)
        rows = [("begin", "", None, False), ("ranks", "", None, True), ("door", "", "open", True),
                ("door", "", "asked", True), ("move", "", None, True), ("say", "", None, False),
                ("strike", "", None, False), ("seat", AMY, "in", False), ("seat", AMY, "out", False),
                ("seat", AMY, "called", False), ("seat", AMY, "barred", False), ("seat", BOB, "in", False),
                ("seat", BOB, "out", True), ("seat", BOB, "called", False), ("seat", BOB, "barred", True)]
        for kind, about, body, is_one in rows:
            hall = hall_of(deed(FIRST, "begin", AMY), deed(name, kind, AMY, about, body))
            self.assert_of_rank(hall, [name], [name] if is_one else [])
            self.assert_of_rank(hall, [FIRST, name], [FIRST, name] if is_one and kind != "begin" else [])

    def test_a_say_of_such_words_is_none(self):
        for body in ("out", "barred", "ranks"):
            hall = hall_of(deed(FIRST, "begin", AMY), deed(SIT, "say", AMY, body=body))
            self.assert_of_rank(hall, [SIT, FIRST], [])

    def test_what_stands_in_their_chains(self):
        self.assert_of_rank(BRANCHED, [], [])
        self.assert_of_rank(BRANCHED, [SIT, CALL, SAID], [])
        self.assert_of_rank(BRANCHED, [SIT, CALL, SAID, FIRST, HIGH], [FIRST, SIT, HIGH])
        self.assert_of_rank(BRANCHED, [OPENED, CALL, SIT], [SIT, OPENED])
        self.assert_of_rank(BRANCHED, list(BRANCHED), [FIRST, SIT, LOW, HIGH, OPENED])

    def test_names_of_the_chains_that_arent_in_the_list(self):
        self.assert_of_rank(BRANCHED, [OPENED], [OPENED])
        self.assert_of_rank(BRANCHED, [OPENED, FIRST], [FIRST, OPENED])
        # The deed of rank itself must be in the list; that a chain has one isn't enough.
        self.assert_of_rank(BRANCHED, [SAID, SIT], [])

    def test_through_names_that_arent_in_the_list(self):
        hall = hall_of(deed(FIRST, "begin", AMY), deed(SIT, "seat", AMY, AMY, "in"),
                       deed(CALL, "seat", AMY, BOB, "called", leave=[SIT]), deed(SAID, "say", AMY, leave=[CALL]),
                       deed(OPENED, "door", AMY, leave=[SAID]))
        self.assert_of_rank(hall, [OPENED, SIT], [SIT, OPENED])
        self.assert_of_rank(hall, [SIT, SAID, OPENED], [SIT, OPENED, SAID])

    def test_by_leave_not_by_after(self):
        hall = hall_of(deed(FIRST, "begin", AMY), deed(SIT, "seat", AMY, AMY, "in"),
                       deed(LOW, "door", AMY, after=[SIT], leave=[FIRST]))
        self.assert_of_rank(hall, [LOW, SIT, FIRST], [FIRST, LOW])

    def test_names_by_chance(self):
        for seed in range(120):
            hall = chance_hall(seed, 14)
            chance = random.Random(seed)
            names = chance.sample(list(hall), chance.randint(0, len(hall)))
            heads = [name for name in names if hall[name][1] in ("ranks", "door", "move") or (
                hall[name][1] == "seat" and hall[name][4] in ("out", "barred") and hall[name][2] != hall[name][3])]
            self.assertEqual(of_rank(hall, names), sorted(set(names) & set(reached(hall, heads, 6))))


def rank_named(hall, name):
    """The rank of who by what a deed names, found by its words."""
    named = [hall[other] for other in hall[name][6]]
    ranks = [one for one in named if one[1] == "ranks"]
    if ranks:
        return dict(ranks[-1][4][0]).get(hall[name][2], 0)
    began = [one[2] for one in named if one[1] == "begin"]
    return 100 if began and began[-1] == hall[name][2] else 0


class ByLeaves(unittest.TestCase):
    def assert_order(self, hall, names, told):
        with Unchanged(self, hall, names):
            found = by_leaves(hall, names)
            self.assertIs(type(found), list)
            self.assertEqual(found, told)
            self.assertEqual(by_leaves(names=names, hall=hall), told)
            found.append(("z", 1))
            self.assertEqual(by_leaves(hall, names), told)
        self.assertEqual(by_leaves(turned(hall), names[::-1]), told)

    def test_none_and_one(self):
        self.assert_order(BRANCHED, [], [])
        for name in BRANCHED:
            self.assert_order(BRANCHED, [name], [name])

    def test_behind_all_in_the_chain(self):
        names = [("ash", number) for number in (9, 4, 7, 2, 5)]
        hall = {FIRST: deed(FIRST, "begin", AMY)}
        for ahead, name in zip([FIRST] + names, names):
            hall[name] = deed(name, "say", AMY, leave=[ahead])
        self.assert_order(hall, sorted(names), names)
        self.assert_order(hall, list(hall), [FIRST] + names)

    def test_through_names_that_arent_in_the_list(self):
        names = [("ash", number) for number in (9, 4, 7, 2, 5)]
        hall = {FIRST: deed(FIRST, "begin", AMY)}
        for ahead, name in zip([FIRST] + names, names):
            hall[name] = deed(name, "say", AMY, leave=[ahead])
        for many in range(6):
            for few in itertools.combinations(names, many):
                self.assert_order(hall, sorted(few), list(few))

    def test_by_rank_then_by_name(self):
        # By what they name amy has 60, 90, or, as who began, 100; bob has none.
        deeds = [deed(("ash", 7), "say", AMY, leave=[FIRST, SIT, LOW]), deed(("ash", 8), "say", AMY, leave=[FIRST, HIGH]),
                 deed(("ash", 9), "say", AMY, leave=[FIRST, SIT]), deed(("ash", 10), "say", AMY, leave=[FIRST]),
                 deed(("aa", 1), "say", "amy@aa", leave=[FIRST]), deed(("birch", 1), "say", BOB, leave=[FIRST]),
                 deed(("ash", 11), "say", AMY, leave=[SIT, HIGH])]
        hall = hall_of(*BRANCHED.values(), *deeds)
        order = [("ash", 9), ("ash", 10), ("ash", 8), ("ash", 11), ("ash", 7), ("aa", 1), ("birch", 1)]
        self.assert_order(hall, sorted(order), order)
        for few in itertools.combinations(order, 3):
            self.assert_order(hall, list(few), list(few))

    def test_of_two_ranks_deeds_named_the_last(self):
        hall = hall_of(*BRANCHED.values(), deed(("ash", 7), "say", AMY, leave=[LOW]),
                       deed(("ash", 8), "say", AMY, leave=[LOW, HIGH]))
        self.assert_order(hall, [("ash", 7), ("ash", 8)], [("ash", 8), ("ash", 7)])

    def test_nought_of_a_begin(self):
        hall = hall_of(deed(FIRST, "begin", AMY), deed(("elm", 1), "begin", DAN), deed(("ash", 1), "say", AMY),
                       deed(("z", 1), "say", "dan@z", leave=[("elm", 1)]))
        hall[("fir", 1)] = deed(("fir", 1), "ranks", "dan@fir", body=((("bob@zz", 1),), ()), leave=[FIRST])
        hall[("zz", 1)] = deed(("zz", 1), "say", "bob@zz", leave=[("fir", 1)])
        self.assert_order(hall, [("elm", 1), ("ash", 1), ("zz", 1)], [("ash", 1), ("zz", 1), ("elm", 1)])
        self.assert_order(hall, [("z", 1), FIRST, ("elm", 1)], [FIRST, ("elm", 1), ("z", 1)])

    def test_one_that_is_freed_goes_ahead_of_one_that_waits(self):
        # Bob's deed has no rank, but amy's great one stands behind it; cyd's goes between where her rank is.
        base = deed(("ash", 2), "ranks", AMY, body=(((AMY, 90), (CYD, 50)), ()), leave=[FIRST])
        hall = hall_of(deed(FIRST, "begin", AMY), base, deed(("birch", 5), "seat", BOB, BOB, "in", leave=[FIRST]),
                       deed(("ash", 9), "seat", AMY, BOB, "out", leave=[("ash", 2), ("birch", 5)]),
                       deed(("ash", 3), "say", CYD, leave=[("ash", 2)]),
                       deed(("elm", 4), "say", DAN, leave=[("ash", 2)]))
        self.assert_order(hall, [("elm", 4), ("ash", 3), ("birch", 5), ("ash", 9)],
                          [("ash", 3), ("birch", 5), ("ash", 9), ("elm", 4)])
        self.assert_order(hall, [("elm", 4), ("ash", 3), ("ash", 9)], [("ash", 9), ("ash", 3), ("elm", 4)])

    def test_names_by_chance(self):
        for seed in range(120):
            hall = chance_hall(seed, 14)
            chance = random.Random(seed)
            names = chance.sample(list(hall), chance.randint(0, len(hall)))
            left, order = set(names), []
            while left:
                free = [name for name in left if not left & set(reached(hall, hall[name][6], 6))]
                order.append(min(free, key=lambda name: (-rank_named(hall, name), name)))
                left.remove(order[-1])
            self.assertEqual(by_leaves(hall, names), order)

    def test_ways_that_meet_again_and_again(self):
        hall = ladder(60)
        start = time.monotonic()
        self.assert_order(hall, sorted(hall), sorted(hall))
        self.assert_order(hall, [("ash", 59), ("ash", 1)], [("ash", 1), ("ash", 59)])
        self.assertEqual(of_rank(hall, sorted(hall)), [])
        self.assertEqual(along(hall, [], sorted(hall)), sorted(hall))
        self.assertEqual(parted(hall, [{BEGIN: FIRST}, {}]), ({}, [FIRST]))
        self.assertLess(time.monotonic() - start, 5)


NEXT, LAST, SIDE, BOTH = ("ash", 12), ("ash", 11), ("ash", 13), ("ash", 14)

# The line of LAST is LAST, NEXT, HIGH; SIDE goes off from HIGH, and LOW stands apart; BOTH names two.
LINED = hall_of(
    *BRANCHED.values(),
    deed(NEXT, "ranks", AMY, after=[SAID], leave=[FIRST, SIT, HIGH]),
    deed(LAST, "ranks", AMY, after=[NEXT], leave=[FIRST, SIT, NEXT]),
    deed(SIDE, "ranks", AMY, after=[HIGH], leave=[FIRST, SIT, HIGH]),
    deed(BOTH, "ranks", AMY, after=[LAST, LOW], leave=[LOW, SIDE, NEXT]),
)


class Lines(unittest.TestCase):
    def assert_line(self, hall, name, told):
        with Unchanged(self, hall):
            line = line_of(hall, name)
            self.assertIs(type(line), list)
            self.assertEqual(line, told)
            self.assertEqual(line_of(name=name, hall=hall), told)
            line.append(FIRST)
            self.assertEqual(line_of(hall, name), told)
        self.assertEqual(line_of(turned(hall), name), told)

    def test_of_none(self):
        self.assert_line(LINED, None, [])
        self.assert_line({}, None, [])

    def test_of_one(self):
        self.assert_line(LINED, LOW, [LOW])
        self.assert_line(LINED, HIGH, [HIGH])

    def test_of_several(self):
        self.assert_line(LINED, NEXT, [NEXT, HIGH])
        self.assert_line(LINED, LAST, [LAST, NEXT, HIGH])
        self.assert_line(LINED, SIDE, [SIDE, HIGH])

    def test_where_a_leave_names_several(self):
        self.assert_line(LINED, BOTH, [BOTH, SIDE, HIGH])
        hall = hall_of(*LINED.values(), deed(("ash", 20), "ranks", AMY, leave=[LOW, LAST, HIGH, SAID]),
                       deed(("ash", 21), "ranks", AMY, leave=[HIGH, LOW]))
        self.assert_line(hall, ("ash", 20), [("ash", 20), LAST, NEXT, HIGH])
        self.assert_line(hall, ("ash", 21), [("ash", 21), HIGH])

    def test_by_leave_not_by_after(self):
        hall = hall_of(deed(FIRST, "begin"), deed(LOW, "ranks"), deed(HIGH, "ranks", after=[LOW]))
        self.assert_line(hall, HIGH, [HIGH])

    def test_ranks_deeds_alone_are_gone_through(self):
        hall = hall_of(deed(FIRST, "begin"), deed(LOW, "ranks"), deed(SAID, "say", leave=[LOW]),
                       deed(("ash", 9), "ranks", leave=[SAID]))
        self.assert_line(hall, ("ash", 9), [("ash", 9)])

    def test_a_long_one(self):
        hall = row_of(2000)
        self.assertEqual(line_of(hall, ("ash", 1999)), [("ash", number) for number in range(1999, 0, -1)])
        self.assertEqual(far_of(hall, [("ash", 1)], ("ash", 1999)), 0)
        self.assertEqual(along(hall, line_of(hall, ("ash", 1999)), sorted(hall)), sorted(hall))


class Fars(unittest.TestCase):
    def assert_far(self, hall, line, name, far):
        with Unchanged(self, hall, line):
            self.assertEqual(far_of(hall, line, name), far)
            self.assertEqual(far_of(name=name, line=line, hall=hall), far)
        self.assertEqual(far_of(turned(hall), list(line), name), far)

    def test_on_the_line(self):
        for far, name in enumerate([LAST, NEXT, HIGH]):
            self.assert_far(LINED, [LAST, NEXT, HIGH], name, far)
            self.assert_far(LINED, [BOTH, LOW, LAST, NEXT, HIGH], name, far + 2)

    def test_beside_the_line(self):
        line = [LAST, NEXT, HIGH]
        self.assert_far(LINED, line, SIDE, 2)
        self.assert_far(LINED, line, LOW, 3)
        self.assert_far(LINED, line, BOTH, 2)
        self.assert_far(LINED, [SIDE, HIGH], NEXT, 1)
        self.assert_far(LINED, [SIDE, HIGH], LAST, 1)
        self.assert_far(LINED, [SIDE, HIGH], BOTH, 0)
        self.assert_far(LINED, [NEXT], BOTH, 1)
        self.assert_far(LINED, [LOW], BOTH, 1)

    def test_of_other_deeds(self):
        line = [LAST, NEXT, HIGH]
        self.assert_far(LINED, line, CALL, 2)
        self.assert_far(LINED, line, SAID, 2)
        self.assert_far(LINED, line, OPENED, 3)
        self.assert_far(LINED, line, FIRST, 3)
        self.assert_far(LINED, line, SIT, 3)
        hall = hall_of(*LINED.values(), deed(("ash", 20), "say", AMY, leave=[LAST]),
                       deed(("ash", 21), "say", AMY, leave=[LOW, NEXT]), deed(("ash", 22), "say", AMY, leave=[LOW, HIGH]),
                       deed(("ash", 23), "seat", AMY, AMY, "out", leave=[FIRST, SIDE]),
                       deed(("ash", 24), "say", AMY, leave=[("ash", 20)]))
        for name, far in ((("ash", 20), 0), (("ash", 21), 1), (("ash", 22), 2), (("ash", 23), 2), (("ash", 24), 3)):
            self.assert_far(hall, line, name, far)

    def test_a_line_of_none(self):
        for name in LINED:
            self.assert_far(LINED, [], name, 0)

    def test_a_line_of_one(self):
        for name in LINED:
            self.assert_far(LINED, [HIGH], name, 1 if name in (FIRST, SIT, LOW, OPENED) else 0)
            self.assert_far(LINED, [LOW], name, 0 if name in (LOW, OPENED) else 1)


class Along(unittest.TestCase):
    def assert_along(self, hall, line, names, told):
        with Unchanged(self, hall, line, names):
            found = along(hall, line, names)
            self.assertIs(type(found), list)
            self.assertEqual(found, told)
            self.assertEqual(along(names=names, line=line, hall=hall), told)
            found.append(("z", 1))
            self.assertEqual(along(hall, line, names), told)
        self.assertEqual(along(turned(hall), list(line), names[::-1]), told)

    def test_none_and_one(self):
        self.assert_along(LINED, [], [], [])
        self.assert_along(LINED, [LAST, NEXT, HIGH], [], [])
        for name in LINED:
            self.assert_along(LINED, [], [name], [name])

    def test_by_far_then_depth_then_name(self):
        order = [FIRST, SIT, LOW, OPENED, HIGH, CALL, SIDE, SAID, BOTH, NEXT, LAST]
        self.assert_along(LINED, [LAST, NEXT, HIGH], sorted(LINED), order)
        for few in itertools.combinations(order, 3):
            self.assert_along(LINED, [LAST, NEXT, HIGH], list(few), list(few))

    def test_by_depth_then_name_where_the_line_is_of_none(self):
        order = [FIRST, SIT, LOW, HIGH, CALL, OPENED, SIDE, SAID, NEXT, LAST, BOTH]
        self.assert_along(LINED, [], sorted(LINED), order)

    def test_by_name_at_last(self):
        names = [("aa", 2), ("ash", 9), ("ash", 10), ("b", 0)]
        hall = hall_of(deed(FIRST, "begin", AMY), *[deed(name, "say") for name in names])
        self.assert_along(hall, [], names[::-1], names)

    def test_depth_is_by_after(self):
        hall = hall_of(deed(FIRST, "begin", AMY), deed(("ash", 1), "say"), deed(("ash", 3), "say", after=[("ash", 1)]),
                       deed(("ash", 2), "say", after=[("ash", 3)]), deed(("ash", 4), "say", leave=[("ash", 2)]))
        names = [("ash", number) for number in (1, 2, 3, 4)]
        self.assert_along(hall, [], names, [("ash", 1), ("ash", 4), ("ash", 3), ("ash", 2)])

    def test_names_by_chance(self):
        for seed in range(120):
            hall = chance_hall(seed, 14)
            chance = random.Random(seed)
            names = chance.sample(list(hall), chance.randint(0, len(hall)))
            ranks = [name for name in hall if hall[name][1] == "ranks"]
            line = line_of(hall, chance.choice(ranks + [None]))
            told = along(hall, line, names)
            self.assertEqual(told, sorted(names, key=lambda name: (
                -far_of(hall, line, name), longest(hall, name, 5), name)))
            for name in hall:
                self.assertEqual(far_of(hall, line, name), far_by_words(hall, line, name))


def far_by_words(hall, line, name):
    """The far of a deed, by going on from ranks deed to ranks deed as the words say it."""
    one = hall[name]
    if one[1] == "ranks" and name in line:
        return line.index(name)
    ranks = [other for other in one[6] if hall[other][1] == "ranks"]
    return far_by_words(hall, line, max(ranks)) if ranks else len(line)


if __name__ == "__main__":
    unittest.main()

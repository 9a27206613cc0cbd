"""[16] and [17], [2] and [3] (c) of them: states made of several, their papers, and papers looked at."""

import itertools
import random
import unittest

from branchedhall.errors import NoPaper, NoStates
from branchedhall.made import lets_made, made, state_by
from branchedhall.webs import Web
from tests.halls import AMY, BEGIN, BOB, CYD, DAN, DOOR, FIRST, MOVE, RANKS, Unchanged, chance_hall, chance_state, deed
from tests.halls import hall_of, seat, turned
from tests.samples import ODD_THINGS
from tests.stories import Story, chance_deeds, gathered, name_of, slow_made

EVE = "eve@fir"


def paper_of(text):
    """A paper in short: names, each with a rule, or with a dash for None."""
    words = text.split()
    return [(name_of(name), None if rule == "-" else rule) for name, rule in zip(words[::2], words[1::2])]


class Made(unittest.TestCase):
    def assert_made(self, hall, states, changes, paper):
        """What is made is the first state with some changes: names in short, None for a key that isn't there."""
        state = dict(states[0])
        for key, name in changes.items():
            state.pop(key, None)
            state.update({} if name is None else {key: name_of(name)})
        with Unchanged(self, hall, states, *states):
            told = made(hall, states)
            self.assertEqual(told, (state, paper_of(paper)))
            self.assertEqual([type(told), type(told[0]), type(told[1])], [tuple, dict, list])
            self.assertTrue(all(type(row) is tuple for row in told[1]))
            self.assertEqual(made(states=states, hall=hall), told)
            told[0][MOVE] = FIRST
            told[1].append(None)
            self.assertEqual(made(hall, states), (state, paper_of(paper)))
        told = made(hall, states)
        for order in itertools.islice(itertools.permutations(states), 24):
            again = made(turned(hall), [turned(one) for one in order])
            self.assertEqual(again, told)
            self.assertEqual(list(again[0]), list(told[0]))
        for one in states[:6 - len(states)]:
            self.assertEqual(made(hall, [one, *states]), told)
        self.assertIs(lets_made(hall, states, told[1]), True)
        self.assertEqual(state_by(hall, states, told[1]), told[0])

    def test_of_one_and_of_alike_ones(self):
        story = gathered()
        for name in story.web.names():
            for many in range(1, 7):
                states = [story.web.behind(name) for at in range(many)]
                self.assert_made(story.web.hall(), states, {}, "")
        self.assert_made({}, [{}], {}, "")
        self.assert_made({}, [{}, {}], {}, "")
        hall = chance_hall(3, 20)
        chance = random.Random(3)
        for at in range(40):
            # States of any making: their deeds needn't have any leave.
            state = chance_state(chance, hall)
            self.assert_made(hall, [state] * 3, {}, "")
            self.assertIsNot(made(hall, [state])[0], state)

    def test_one_branch_that_goes_on(self):
        story = gathered()
        story.add("ash10", "move", AMY)
        states = story.behind("ash9", "ash10")
        self.assert_made(story.web.hall(), states, {MOVE: "ash10"}, "ash10 -")

    def test_a_bar_against_a_coming_in(self):
        story = gathered()
        story.add("ash10", "seat", AMY, DAN, "barred", after="ash9")
        story.add("elm2", "seat", DAN, DAN, "out", after="ash9")
        story.add("elm3", "seat", DAN, DAN, "in", after="elm2")
        states = story.behind("ash10", "elm3")
        self.assert_made(story.web.hall(), states, {seat(DAN): "ash10"}, "ash10 - elm2 seat elm3 barred")

    def test_somebody_put_out_whom_another_branch_raises(self):
        story = gathered()
        story.add("ash10", "seat", AMY, DAN, "out", after="ash9")
        raised = ((AMY, 100), (BOB, 60), (CYD, 60), (DAN, 50))
        story.add("birch2", "ranks", BOB, body=(raised, ()), after="ash9")
        states = story.behind("ash10", "birch2")
        self.assert_made(story.web.hall(), states, {seat(DAN): "ash10", RANKS: "birch2"},
                         "ash9 - birch2 - elm1 - ash10 -")

    def test_somebody_raised_so_far_that_the_other_branch_may_not_put_them_out(self):
        story = gathered()
        story.add("birch2", "seat", BOB, DAN, "out", after="ash9")
        raised = ((AMY, 100), (BOB, 60), (CYD, 60), (DAN, 60))
        story.add("ash10", "ranks", AMY, body=(raised, ()), after="ash9")
        states = story.behind("birch2", "ash10")
        self.assert_made(story.web.hall(), states, {seat(DAN): "elm1", RANKS: "ash10"},
                         "ash9 - ash10 - elm1 - birch2 above")

    def test_a_rank_lowered_and_what_was_given_by_it_meanwhile(self):
        story = gathered()
        story.add("ash10", "ranks", AMY, body=(((AMY, 100), (CYD, 60)), ()), after="ash9")
        story.add("birch2", "ranks", BOB, body=(((AMY, 100), (BOB, 60), (CYD, 60), (DAN, 50)), ()), after="ash9")
        story.add("elm2", "door", DAN, body="asked", after="birch2")
        story.add("birch3", "seat", BOB, EVE, "called", after="elm2")
        states = story.behind("ash10", "birch3")
        self.assert_made(story.web.hall(), states, {RANKS: "ash10", DOOR: "ash2", seat(EVE): "birch3"},
                         "ash2 - ash10 - birch2 rank elm2 rank birch3 -")

    def test_a_door_shut_and_somebody_who_came_by_it(self):
        story = gathered()
        story.add("ash10", "door", AMY, body="asked", after="ash9")
        story.add("fir1", "seat", EVE, EVE, "in", after="ash9")
        states = story.behind("ash10", "fir1")
        self.assert_made(story.web.hall(), states, {DOOR: "ash10"}, "ash2 - ash10 - fir1 door")

    def test_a_door_that_was_shut_already_for_one_who_came_by_it(self):
        # Who came ahead of the parting stays, though the door by which it was is shut now.
        story = gathered()
        story.add("ash10", "door", AMY, body="asked", after="ash9")
        story.add("elm2", "say", DAN, after="ash9")
        states = story.behind("ash10", "elm2")
        self.assert_made(story.web.hall(), states, {DOOR: "ash10"}, "ash2 - ash10 -")

    def test_who_began_comes_by_any_door(self):
        story = Story()
        name = story.add("ash1", "seat", AMY, AMY, "in")
        hall = story.web.hall()
        self.assert_made(hall, [{BEGIN: FIRST}, {BEGIN: FIRST, seat(AMY): name}], {seat(AMY): "ash1"}, "ash1 -")

    def test_two_bars_of_one_another(self):
        story = gathered(((AMY, 100), (BOB, 60), (CYD, 50)))
        story.add("ash10", "seat", AMY, BOB, "barred", after="ash9")
        story.add("birch2", "seat", BOB, CYD, "barred", after="ash9")
        states = story.behind("ash10", "birch2")
        self.assert_made(story.web.hall(), states, {seat(CYD): "ash3", seat(BOB): "ash10"},
                         "ash3 - birch1 - ash10 - birch2 seat")

    def test_the_greater_rank_goes_first_then_the_name(self):
        story = gathered()
        story.add("ash10", "door", CYD, body="asked", after="ash9")
        story.add("birch2", "door", BOB, body="open", after="ash9")
        story.add("ash20", "door", AMY, body="open", after="ash9")
        states = story.behind("ash10", "birch2", "ash20")
        self.assert_made(story.web.hall(), states, {DOOR: "birch2"}, "ash20 - ash10 - birch2 -")

    def test_the_others_along_the_line_of_the_ranks_deed_that_stands_then(self):
        # By depth, or by name, birch2 would go first; but it is nearer on the line of ash10, which stands then.
        story = gathered()
        story.add("ash10", "ranks", AMY, body=(((AMY, 100), (BOB, 60), (CYD, 50)), ()), after="ash9")
        story.add("birch2", "seat", BOB, EVE, "called", after="ash10")
        story.add("ash20", "say", CYD, after="ash9")
        story.add("ash21", "say", CYD, after="ash20")
        story.add("birch22", "seat", BOB, EVE, "called", after="ash21")
        states = story.behind("birch2", "birch22")
        self.assert_made(story.web.hall(), states, {}, "ash9 - ash10 - birch22 - birch2 -")

    def test_the_others_by_depth_then_by_name(self):
        story = gathered()
        story.add("birch2", "seat", BOB, EVE, "called", after="ash9")
        story.add("ash20", "say", CYD, after="ash9")
        story.add("ash21", "seat", CYD, EVE, "called", after="ash20")
        self.assert_made(story.web.hall(), story.behind("birch2", "ash21"), {seat(EVE): "ash21"}, "birch2 - ash21 -")
        story.add("ash22", "seat", CYD, EVE, "called", after="ash9")
        self.assert_made(story.web.hall(), story.behind("birch2", "ash22"), {}, "ash22 - birch2 -")

    def test_the_line_of_none(self):
        story = Story()
        story.add("ash5", "seat", AMY, AMY, "in")
        story.add("ash2", "seat", AMY, BOB, "called", after="ash5")
        story.add("ash3", "seat", AMY, AMY, "out", after="ash5")
        states = story.behind("ash2", "ash3")
        # Each of them stands behind the seat, by depth; the call has leave no more where amy went first.
        self.assert_made(story.web.hall(), states, {seat(AMY): "ash3"}, "ash5 - ash2 - ash3 -")

    def test_looked_at_by_what_it_names(self):
        # Neither state has a seat of amy's; the door's own leave tells it.
        names = {name: ("ash", number) for number, name in enumerate(("first", "sit", "ranks", "door"))}
        hall = hall_of(
            deed(FIRST, "begin", AMY), deed(names["sit"], "seat", AMY, AMY, "in"),
            deed(names["ranks"], "ranks", AMY, body=(((AMY, 100),), ()), leave=[FIRST, names["sit"]]),
            deed(names["door"], "door", AMY, leave=[FIRST, names["sit"], names["ranks"]]))
        both = {BEGIN: FIRST, RANKS: names["ranks"]}
        self.assert_made(hall, [both, {**both, DOOR: names["door"]}], {DOOR: "ash3"}, "ash3 -")

    def test_looked_at_by_the_states_own_names_over_it(self):
        # The door's own leave tells amy to be in, but by what is alike she is out.
        hall = hall_of(
            deed(FIRST, "begin", AMY), deed(("ash", 1), "seat", AMY, AMY, "in"),
            deed(("ash", 2), "seat", AMY, AMY, "out", leave=[FIRST, ("ash", 1)]),
            deed(("ash", 3), "door", AMY, leave=[FIRST, ("ash", 1)]))
        both = {BEGIN: FIRST, seat(AMY): ("ash", 2)}
        self.assert_made(hall, [both, {**both, DOOR: ("ash", 3)}], {}, "ash3 seat")

    def test_other_keys_of_the_state_arent_laid_over(self):
        # The begin that differs is looked at by nothing, whatever the state has.
        hall = hall_of(deed(FIRST, "begin", AMY), deed(("ash", 1), "seat", AMY, AMY, "in"),
                       deed(("elm", 0), "begin", DAN))
        self.assert_made(hall, [{BEGIN: FIRST, seat(AMY): ("ash", 1)}, {BEGIN: ("elm", 0), seat(AMY): ("ash", 1)}],
                         {BEGIN: "elm0"}, "ash0 - elm0 -")

    def test_what_is_alike_stands_over_it_at_last(self):
        # ash4 is no ranks deed of either state, but the door hangs on it: it stands meanwhile, not at last.
        start, sit = FIRST, ("ash", 1)
        first, low, door, call, say = [("ash", number) for number in (2, 4, 5, 6, 7)]
        hall = hall_of(
            deed(start, "begin", AMY), deed(sit, "seat", AMY, AMY, "in"),
            deed(first, "ranks", AMY, body=(((AMY, 100),), ()), after=[sit], leave=[start, sit]),
            deed(low, "ranks", AMY, body=(((AMY, 60),), (("call", 70),)), after=[first], leave=[start, sit, first]),
            deed(door, "door", AMY, after=[low], leave=[start, sit, low]),
            deed(call, "seat", AMY, BOB, "called", after=[first], leave=[start, sit, first]),
            deed(say, "say", AMY, after=[first], leave=[start, sit, first]))
        both = {BEGIN: start, seat(AMY): sit, RANKS: first}
        self.assert_made(hall, [both, {**both, DOOR: door}], {DOOR: "ash5"}, "ash4 - ash5 -")
        # A call is looked at while ash4 stands, by which amy has too little for it.
        states = [{**both, seat(BOB): call}, {**both, DOOR: door}]
        self.assert_made(hall, states, {DOOR: "ash5", seat(BOB): None}, "ash4 - ash5 - ash6 rank")

    def test_deeds_without_a_key(self):
        # A say may stand in a chain of deeds that aren't given; it is looked at, and stands for nothing.
        start, sit, say, door = FIRST, ("ash", 1), ("ash", 2), ("ash", 3)
        hall = hall_of(deed(start, "begin", AMY), deed(sit, "seat", AMY, AMY, "in"),
                       deed(say, "say", AMY, leave=[start, sit]), deed(door, "door", AMY, leave=[start, sit, say]),
                       deed(("birch", 1), "say", BOB, leave=[start]),
                       deed(("ash", 4), "seat", AMY, BOB, "called", leave=[start, sit, ("birch", 1)]))
        both = {BEGIN: start, seat(AMY): sit}
        self.assert_made(hall, [both, {**both, DOOR: door}], {DOOR: "ash3"}, "ash2 - ash3 -")
        self.assert_made(hall, [both, {**both, seat(BOB): ("ash", 4)}], {seat(BOB): "ash4"}, "ash4 - birch1 seat")

    def test_of_six(self):
        story = gathered()
        for number, body in enumerate(("open", "asked", "open"), 10):
            story.add("ash" + str(number), "door", AMY, body=body, after="ash9")
        story.add("birch2", "move", BOB, after="ash9")
        story.add("birch3", "seat", BOB, DAN, "out", after="ash9")
        story.add("ash13", "seat", CYD, CYD, "out", after="ash9")
        states = story.behind("ash10", "ash11", "ash12", "birch2", "birch3", "ash13")
        self.assert_made(story.web.hall(), states,
                         {DOOR: "ash12", MOVE: "birch2", seat(DAN): "birch3", seat(CYD): "ash13"},
                         "ash2 - ash10 - ash11 - ash12 - birch2 - elm1 - birch3 - ash3 - ash13 -")

    def test_states_of_webs_by_chance(self):
        barred = 0
        for seed in range(60):
            first, deeds = chance_deeds(seed, 50, 0.05)
            web = Web(first)
            for one in deeds:
                web.put(one)
            hall, chance = web.hall(), random.Random(seed)
            for at in range(6):
                names = chance.sample(list(hall), min(len(hall), chance.randint(1, 6)))
                states = [web.behind(name) for name in names]
                state, paper = slow_made(hall, states)
                self.assertEqual(made(hall, states), (state, paper))
                chance.shuffle(states)
                self.assertEqual(made(turned(hall), (states * 2)[:6]), slow_made(hall, (states * 2)[:6]))
                self.assertEqual(made(hall, states), (state, paper))
                barred += len([row for row in paper if row[1] is not None])
        self.assertGreater(barred, 50)

    def test_states_of_any_halls_by_chance(self):
        for seed in range(150):
            hall = chance_hall(seed, 14)
            chance = random.Random(seed)
            states = [chance_state(chance, hall) for at in range(chance.randint(1, 6))]
            self.assertEqual(made(hall, states), slow_made(hall, states))


class Papers(unittest.TestCase):
    def setUp(self):
        story = gathered()
        story.add("ash10", "ranks", AMY, body=(((AMY, 100), (CYD, 60)), ()), after="ash9")
        story.add("birch2", "seat", BOB, DAN, "out", after="ash9")
        story.add("birch3", "seat", BOB, DAN, "barred", after="birch2")
        self.hall, self.states = story.web.hall(), story.behind("ash10", "birch3")
        self.state, self.paper = made(self.hall, self.states)

    def assert_is_one(self, is_one, thing, states=None):
        states = self.states if states is None else states
        self.assertIs(lets_made(self.hall, states, thing), is_one)
        self.assertIs(lets_made(thing=thing, states=states, hall=self.hall), is_one)
        if is_one:
            self.assertEqual(state_by(self.hall, states, thing), made(self.hall, states)[0])
            self.assertEqual(state_by(paper=thing, states=states, hall=self.hall), made(self.hall, states)[0])
        else:
            with self.assertRaises(NoPaper):
                state_by(self.hall, states, thing)

    def test_the_paper(self):
        self.assertEqual(self.paper, paper_of("ash9 - ash10 - elm1 - birch2 rank birch3 rank"))
        with Unchanged(self, self.hall, self.states, self.paper):
            self.assert_is_one(True, self.paper)
            self.assert_is_one(True, list(self.paper), self.states[::-1])
            self.assert_is_one(True, [tuple(list(row)) for row in self.paper], self.states * 3)

    def test_of_one(self):
        self.assert_is_one(True, [], self.states[:1])
        self.assert_is_one(False, self.paper, self.states[:1])
        self.assert_is_one(False, [])

    def test_the_state_is_the_askers_own(self):
        state_by(self.hall, self.states, self.paper).clear()
        self.assertEqual(state_by(self.hall, self.states, self.paper), self.state)
        self.assertEqual(made(self.hall, self.states), (self.state, self.paper))

    def test_a_row_out_or_twice_or_exchanged(self):
        for at in range(len(self.paper)):
            self.assert_is_one(False, self.paper[:at] + self.paper[at + 1:])
            self.assert_is_one(False, self.paper[:at] + [self.paper[at]] + self.paper[at:])
            self.assert_is_one(False, self.paper + [self.paper[at]])
            for other in range(at):
                rows = list(self.paper)
                rows[at], rows[other] = rows[other], rows[at]
                self.assert_is_one(False, rows)

    def test_another_name_or_rule(self):
        for at, (name, rule) in enumerate(self.paper):
            for row in [(other, rule) for other in [*self.hall, ("zz", 1), (name[0], name[1] + 1), list(name),
                                                    (*name, 0), name[:1], "ash:9", None]]:
                if row[0] != name:
                    self.assert_is_one(False, self.paper[:at] + [row] + self.paper[at + 1:])
            for other in (None, "", "rank", "seat", "above", "None", 0, False, b"rank", ["rank"], ("rank",)):
                if other != rule or isinstance(other, bool):
                    self.assert_is_one(False, self.paper[:at] + [(name, other)] + self.paper[at + 1:])

    def test_numbers_that_are_truths(self):
        at = [name for name, rule in self.paper].index(("elm", 1))
        for number in (True, 1.0):
            self.assert_is_one(False, self.paper[:at] + [(("elm", number), None)] + self.paper[at + 1:])

    def test_a_list_for_a_tuple(self):
        self.assert_is_one(False, tuple(self.paper))
        self.assert_is_one(False, dict(self.paper))
        for at, (name, rule) in enumerate(self.paper):
            for row in ([name, rule], (list(name), rule), (name,), (name, rule, None), (name, (rule,)), name, {}, ()):
                self.assert_is_one(False, self.paper[:at] + [row] + self.paper[at + 1:])

    def test_things_of_every_kind(self):
        for thing in ODD_THINGS + (0, "", "rank", (), ([],), iter([])):
            self.assert_is_one(False, thing)
            self.assert_is_one(thing == [] if isinstance(thing, list) else False, thing, self.states[:1])
            self.assert_is_one(False, [thing])
            for at, (name, rule) in enumerate(self.paper):
                self.assert_is_one(False, self.paper[:at] + [thing] + self.paper[at + 1:])
                self.assert_is_one(False, self.paper[:at] + [(thing, rule)] + self.paper[at + 1:])
                if thing is not rule:
                    self.assert_is_one(False, self.paper[:at] + [(name, thing)] + self.paper[at + 1:])

    def test_papers_by_chance(self):
        for seed in range(60):
            hall, chance = chance_hall(seed, 14), random.Random(seed)
            states = [chance_state(chance, hall) for at in range(3)]
            state, paper = made(hall, states)
            self.assertTrue(lets_made(hall, states, paper))
            self.assertEqual(state_by(hall, states, paper), state)
            chance.shuffle(states)
            self.assertTrue(lets_made(hall, states, paper))
            if len(paper) > 1:
                self.assertFalse(lets_made(hall, states, paper[::-1]))


class NoListsOfStates(unittest.TestCase):
    def assert_refused(self, states, number):
        hall = gathered().web.hall()
        asks = [lambda: made(hall, states)]
        # Ahead of whatever there is to be said of the paper.
        for thing in ([], None, [(FIRST, None)]):
            asks.append(lambda thing=thing: lets_made(hall, states, thing))
            asks.append(lambda thing=thing: state_by(hall, states, thing))
        for ask in asks:
            with self.assertRaises(NoStates) as caught:
                ask()
            self.assertEqual((caught.exception.number, type(caught.exception.number)), (number, type(number)))

    def test_no_list_of_one_to_six(self):
        for thing in ODD_THINGS + (0, "", (), ({},), {}, [], [{}] * 7, [None] * 7):
            if not isinstance(thing, list) or not 1 <= len(thing) <= 6:
                self.assert_refused(thing, None)

    def test_things_that_are_no_states(self):
        for thing in ODD_THINGS + (0, "", ()):
            if not isinstance(thing, dict):
                for at in range(6):
                    self.assert_refused([{BEGIN: FIRST}] * at + [thing] + [None] * (5 - at), at)


if __name__ == "__main__":
    unittest.main()

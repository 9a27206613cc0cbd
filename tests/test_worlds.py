"""[23], and [2] of it: worlds, their rows, what each tells, and what is refused."""

import random
import unittest

from branchedhall.errors import Full, NoDeed, NoHouse, NoHouses, NoRow
from branchedhall.houses import House
from branchedhall.webs import Web
from branchedhall.worlds import World
from tests.halls import AMY, BOB, CYD, DAN, FIRST, Unchanged, deed, seat
from tests.samples import ODD_THINGS, altered
from tests.stories import PEOPLE, chance_body, told_of

EVE = "eve@fir"
SIT = ("do", "ash", AMY, "seat", AMY, "in")
OPEN = ("do", "ash", AMY, "door", "", "open")


def world_of(*rows, houses=("ash", "birch", "elm"), rules=1):
    """A world in which some rows were woven."""
    world = World(list(houses), AMY, rules=rules)
    world.weave(list(rows))
    return world


def told_of_world(world):
    """All that a world tells."""
    return world.houses(), world.is_one(), [told_of(world.web(house)) for house in world.houses()]


class Making(unittest.TestCase):
    def test_one_to_six_houses(self):
        houses = ["elm", "ash", "birch", "fir", "gorse", "hazel"]
        for many in range(1, 7):
            for rules in (1, 2):
                given = houses[:many]
                with Unchanged(self, given):
                    world = World(given, "dan@elm", rules=rules)
                first = (("elm", 0), "begin", DAN, "", (rules, None), (), ())
                self.assertEqual(world.houses(), given)
                for house in given:
                    self.assertEqual(world.web(house), Web(first))
                    self.assertEqual(world.web(house).names(), [("elm", 0)])
                self.assertIs(world.is_one(), True)
                given.append("ivy")
                self.assertEqual(world.houses(), houses[:many])

    def test_arguments(self):
        world = World(person=AMY, houses=["ash"])
        self.assertEqual(world.web(house="ash").deed(FIRST), deed(FIRST, "begin", AMY))
        with self.assertRaises(TypeError):
            World(["ash"], AMY, 2)

    def assert_no_houses(self, thing, number):
        for person in (AMY, None):
            with self.assertRaises(NoHouses) as caught:
                World(thing, person, rules=7 if person is None else 1)
            self.assertEqual((caught.exception.number, type(caught.exception.number)), (number, type(number)))

    def test_no_list_of_one_to_six(self):
        for thing in ODD_THINGS + (0, "", "ash", (), ("ash",), {"ash": 1}, [], ["ash"] * 7, list("abcdefg"), [None] * 7):
            if not isinstance(thing, list) or len(thing) in (0, 7):
                self.assert_no_houses(thing, None)

    def test_things_that_are_no_houses(self):
        for thing in ODD_THINGS + (0, "", "Ash", "abcdefghi", "a@b", ["ash"]):
            for at in range(6):
                houses = ["ash", "birch", "elm", "fir", "gorse", "hazel"]
                houses[at] = thing
                self.assert_no_houses(houses, at)
                self.assert_no_houses((houses[:at + 1] + [None])[:6], at)

    def test_a_house_twice(self):
        self.assert_no_houses(["ash", "ash"], 1)
        self.assert_no_houses(["ash", "birch", "elm", "birch", "ash", None], 3)
        self.assert_no_houses(["ash", "birch", None, "birch"], 2)

    def test_no_begin(self):
        for person, rules, part in ((None, 1, "who"), ("amy", 1, "who"), (BOB, 1, "house"), (AMY, 0, "body"),
                                    (AMY, 3, "body"), (AMY, True, "body"), (AMY, None, "body"), (BOB, 3, "body"),
                                    ([], [], "who")):
            with self.assertRaises(NoDeed) as caught:
                World(["ash", "birch"], person, rules=rules)
            self.assertEqual(caught.exception.part, part)
        for thing in ODD_THINGS:
            with self.assertRaises(NoDeed) as caught:
                World(["ash", "birch"], thing)
            self.assertEqual(caught.exception.part, "who")


class Doing(unittest.TestCase):
    def test_the_name_is_told(self):
        world = world_of()
        rows = [SIT, OPEN, ("do", "ash", AMY, "seat", BOB, "called"), ("do", "ash", AMY, "say", "", "oh")]
        with Unchanged(self, rows):
            told = world.weave(rows)
        self.assertEqual(told, [("ash", 1), ("ash", 2), ("ash", 3), ("ash", 4)])
        self.assertIs(type(told), list)
        self.assertEqual(world.web("ash").deed(("ash", 4))[:5], (("ash", 4), "say", AMY, "", "oh"))
        self.assertEqual(world.web("birch").names(), [FIRST])
        self.assertEqual(world.weave(rows=[]), [])

    def test_barred_and_none(self):
        world = world_of(SIT)
        before = told_of_world(world)
        rows = [(("do", "birch", BOB, "say", "", "oh"), ("barred", "leave", "seat")),
                (("do", "ash", AMY, "strike", "", ("zz", 1)), ("barred", "past", "strike")),
                (("do", "ash", AMY, "begin", "", (1, None)), ("barred", "here", "begun")),
                (("do", "ash", BOB, "say", "", "oh"), ("none", "house")), (("do", "ash", None, "say", "", "oh"),
                                                                            ("none", "who")),
                (("do", "ash", AMY, "nod", "", "oh"), ("none", "kind")), (("do", "ash", AMY, "say", AMY, "oh"),
                                                                           ("none", "about")),
                (("do", "ash", AMY, "say", "", 5), ("none", "body")), (("do", "ash", 5, 5, 5, 5), ("none", "kind"))]
        self.assertEqual(world.weave([row for row, told in rows]), [told for row, told in rows])
        for thing in ODD_THINGS:
            self.assertEqual(world.weave([("do", "ash", thing, "say", "", "oh"), ("do", "ash", AMY, thing, "", "oh"),
                                          ("do", "ash", AMY, "say", thing, "oh"), ("do", "ash", AMY, "say", "", thing)]),
                             [("none", part) for part in ("who", "kind", "about", "body")])
        self.assertEqual(told_of_world(world), before)

    def test_full(self):
        world = world_of(SIT)
        world.weave([("lie", "ash", deed(("zz", number), "begin", "a@zz")) for number in range(298)])
        self.assertEqual(len(world.web("ash")), 300)
        before = told_of_world(world)
        with self.assertRaises(Full):
            world.weave([("do", "ash", AMY, "say", "", "oh"), ("part", "ash")])
        self.assertEqual(told_of_world(world), before)
        # What was done ahead stands, nothing behind it is done.
        with self.assertRaises(Full):
            world.weave([("lie", "birch", deed(("zz", 1), "begin", "a@zz")), ("do", "ash", AMY, "say", "", "oh"),
                         ("lie", "birch", deed(("zz", 2), "begin", "a@zz"))])
        self.assertEqual(world.web("birch").names(), [FIRST, ("zz", 1)])
        self.assertEqual(world.weave([("do", "ash", AMY, "say", "", 5)]), [("none", "body")])


class Telling(unittest.TestCase):
    def test_send(self):
        world = world_of(SIT, OPEN)
        self.assertEqual(world.weave([("send", "ash", "birch")]), [["let"] * 3])
        self.assertEqual(world.web("birch"), world.web("ash"))
        self.assertEqual(world.weave([("send", "elm", "birch"), ("send", "birch", "birch")]), [["let"], ["let"] * 3])
        self.assertEqual(len(world.web("elm")), 1)

    def test_send_by_names_of_a_twin_both(self):
        world = world_of(SIT, OPEN)
        twins = [deed(("birch", 9), "say", BOB, body=body) for body in ("b", "a")]
        world.weave([("lie", "ash", one) for one in twins])
        self.assertEqual(world.weave([("send", "ash", "elm")]), [["let", "let", "let", "barred", "barred"]])
        self.assertEqual(world.web("elm").both(("birch", 9)), twins)
        self.assertEqual(world.web("elm").why(("birch", 9)), ("twin", ""))

    def test_some_turned_about(self):
        rows = [SIT, OPEN] + [("do", "ash", AMY, "say", "", "oh")] * 3
        told = {0: [], 1: ["let"], 2: ["waits", "let"], 4: ["waits"] * 3 + ["let"], 5: ["waits"] * 4 + ["let"],
                300: ["waits"] * 4 + ["let"]}
        for many, stands in told.items():
            world = world_of(*rows)
            self.assertEqual(world.weave([("some", "ash", "birch", many)]), [stands])
            self.assertEqual(world.web("birch").names(), [("ash", number) for number in range(min(many, 5) + 1)])
            # Of those that it doesn't know, the first so many: so it goes on where it was.
            left = max(0, 5 - many)
            self.assertEqual(world.weave([("some", "ash", "birch", 300)]), [["waits"] * (left - 1) + ["let"] * (left > 0)])
            self.assertEqual(world.weave([("some", "ash", "birch", 300)]), [[]])

    def test_some_tells_a_second_one_by_a_known_name(self):
        world = world_of(SIT)
        one, two, three = [deed(("elm", 9), "say", DAN, body=body) for body in ("a", "b", "c")]
        world.weave([("lie", "ash", one), ("lie", "birch", two), ("send", "ash", "elm")])
        self.assertEqual(world.weave([("some", "ash", "elm", 300)]), [[]])
        self.assertEqual(world.weave([("some", "birch", "elm", 300)]), [["barred"]])
        self.assertEqual(world.web("elm").both(("elm", 9)), [one, two])
        self.assertEqual(world.weave([("some", "elm", "ash", 300), ("some", "elm", "birch", 300)]),
                         [["barred"], ["barred", "let"]])
        self.assertEqual((world.web("ash").both(("elm", 9)), world.web("birch").both(("elm", 9))),
                         ([one, two], [two, one]))
        # Of a third one it is heard each time, which changes nothing.
        other = world_of(SIT, ("lie", "ash", three), ("lie", "elm", one), ("lie", "elm", two))
        for at in range(2):
            self.assertEqual(other.weave([("some", "ash", "elm", 300)]), [["barred"] if at else ["barred", "let"]])
        self.assertEqual(other.web("elm").both(("elm", 9)), [one, two])

    def test_fetch(self):
        world = world_of(SIT, OPEN, *[("do", "ash", AMY, "say", "", "oh")] * 4)
        last = world.web("ash").deed(("ash", 6))
        self.assertEqual(world.weave([("lie", "birch", last)]), [["waits"]])
        self.assertEqual(world.weave([("fetch", "birch", "elm")]), [[]])
        # First ash1 and ash5, which it names, then ash4, ash3, and at last ash2.
        self.assertEqual(world.weave([("fetch", "birch", "ash")]), [["let", "waits", "waits", "waits", "let"]])
        self.assertEqual(world.web("birch"), world.web("ash"))
        self.assertEqual(world.weave([("fetch", "birch", "ash"), ("fetch", "ash", "birch")]), [[], []])

    def test_fetch_of_a_twin_both(self):
        twins = [deed(("elm", 9), "say", DAN, body=body, after=[("zz", 1)]) for body in ("b", "a")]
        world = world_of(*[("lie", "ash", one) for one in twins],
                         ("lie", "birch", deed(("elm", 10), "say", DAN, after=[("elm", 9)])))
        self.assertEqual(world.weave([("fetch", "birch", "ash")]), [["waits", "barred"]])
        self.assertEqual(world.web("birch").both(("elm", 9)), twins)
        self.assertEqual(world.web("birch").why(("elm", 10)), ("ahead", ""))

    def test_fetch_as_far_as_there_is_room(self):
        world = world_of(*[("lie", "birch", deed(("zz", number), "begin", "a@zz")) for number in range(3)])
        world.weave([("lie", "ash", deed(("yew", number), "begin", "a@yew")) for number in range(297)])
        asks = deed(("elm", 1), "say", DAN, after=[("zz", 0), ("zz", 1), ("zz", 2)])
        world.weave([("lie", "ash", asks)])
        # One has room; as by that something became known, the others are asked for once more.
        self.assertEqual(world.weave([("fetch", "ash", "birch")]), [["barred", "full", "full", "full", "full"]])
        self.assertEqual(world.weave([("fetch", "ash", "birch")]), [["full", "full"]])
        self.assertEqual(len(world.web("ash")), 300)

    def test_lie(self):
        world = world_of(SIT)
        forged = deed(("birch", 5), "seat", BOB, BOB, "in")
        rows = [("lie", "ash", forged), ("lie", "ash", deed(FIRST, "begin", CYD)),
                ("lie", "birch", altered(forged, after=(("zz", 1),)))]
        self.assertEqual(world.weave(rows), [["barred"], ["twin"], ["waits"]])
        for thing in ODD_THINGS + ((), 0, "", [forged], "ash:0 begin amy@ash - 1 - -"):
            self.assertEqual(world.weave([("lie", "elm", thing)]), [["none"]])
        self.assertEqual(len(world.web("elm")), 1)

    def test_what_is_told_is_the_askers_own(self):
        world = world_of(SIT)
        before = told_of_world(world)
        told = world.weave([("send", "ash", "ash"), ("fetch", "ash", "ash"), ("some", "ash", "ash", 5)])
        for one in told:
            one.append(5)
        told.clear()
        world.houses().clear()
        world.web("ash").put(deed(("zz", 1), "begin", "a@zz"))
        self.assertEqual(told_of_world(world), before)


class Partings(unittest.TestCase):
    def test_part_and_meet(self):
        world = world_of(SIT)
        self.assertEqual(world.weave([("part", "birch"), ("part", "birch")]), [None, None])
        before = told_of_world(world)
        lost = [("send", "ash", "birch"), ("send", "birch", "ash"), ("some", "ash", "birch", 5),
                ("some", "birch", "ash", 0), ("fetch", "birch", "ash"), ("fetch", "ash", "birch"),
                ("send", "birch", "birch")]
        self.assertEqual(world.weave(lost), ["lost"] * 7)
        self.assertEqual(told_of_world(world), before)
        self.assertEqual(world.weave([("send", "ash", "elm"), ("meet", "birch"), ("send", "ash", "birch")]),
                         [["let", "let"], None, ["let", "let"]])
        self.assertEqual(world.weave([("meet", "birch"), ("send", "ash", "birch")]), [None, ["let", "let"]])

    def test_parted_houses_do_and_are_lied_to(self):
        world = world_of(SIT, OPEN, ("send", "ash", "birch"), ("part", "birch"), ("part", "ash"))
        rows = [("do", "birch", BOB, "seat", BOB, "in"), ("lie", "birch", deed(("elm", 1), "say", DAN)),
                ("do", "ash", AMY, "say", "", "oh")]
        self.assertEqual(world.weave(rows), [("birch", 0), ["barred"], ("ash", 3)])

    def test_is_one(self):
        world = world_of(SIT)
        self.assertIs(world.is_one(), False)
        self.assertIs(world_of(SIT, houses=["ash"]).is_one(), True)
        world.weave([("part", "ash")])
        self.assertIs(world.is_one(), True)
        world.weave([("meet", "ash"), ("send", "ash", "birch")])
        self.assertIs(world.is_one(), False)
        world.weave([("part", "elm")])
        self.assertIs(world.is_one(), True)
        world.weave([("part", "ash"), ("part", "birch")])
        self.assertIs(world.is_one(), True)
        world.weave([("meet", house) for house in world.houses()])
        self.assertIs(world.is_one(), False)
        world.weave([("send", "birch", "elm")])
        self.assertIs(world.is_one(), True)

    def test_one_state_of_unlike_webs(self):
        # They know unlike deeds, but tell the same state: what is said has no key.
        world = world_of(SIT, ("send", "ash", "birch"), ("do", "ash", AMY, "say", "", "oh"), houses=["ash", "birch"])
        self.assertNotEqual(world.web("ash"), world.web("birch"))
        self.assertIs(world.is_one(), True)


class NoRows(unittest.TestCase):
    def assert_no_row(self, world, row):
        before = told_of_world(world)
        with self.assertRaises(NoRow) as caught:
            world.weave([row])
        self.assertEqual(caught.exception.number, 0)
        self.assertEqual(told_of_world(world), before)

    def test_no_list(self):
        world = world_of(SIT)
        for thing in ODD_THINGS + (0, "", (), (SIT,), SIT, {0: SIT}, iter([SIT])):
            if not isinstance(thing, list):
                with self.assertRaises(NoRow) as caught:
                    world.weave(thing)
                self.assertIsNone(caught.exception.number)
        self.assertEqual(len(world.web("ash")), 2)

    def test_one_thing_put_otherwise(self):
        world = world_of(SIT)
        good = [SIT, ("send", "ash", "birch"), ("some", "ash", "birch", 5), ("fetch", "ash", "birch"),
                ("lie", "ash", None), ("part", "ash"), ("meet", "ash")]
        for row in good:
            self.assert_no_row(world, row[:-1])
            self.assert_no_row(world, row + (None,))
            self.assert_no_row(world, row + ("ash",))
            self.assert_no_row(world, list(row))
            many = 2 if row[0] in ("send", "some", "fetch") else 1
            for thing in ODD_THINGS + (0, "", "fir", "Ash", "abcdefghi", ("ash",), ["ash"]):
                self.assert_no_row(world, (thing,) + row[1:])
                for at in range(1, many + 1):
                    self.assert_no_row(world, row[:at] + (thing,) + row[at + 1:])
        for word in ("Do", "say", "sends", "do ", "begin"):
            for row in good:
                self.assert_no_row(world, (word,) + row[1:])

    def test_numbers_of_some(self):
        world = world_of(SIT)
        for thing in ODD_THINGS + (301, 300.0, "5", (5,), -5):
            self.assert_no_row(world, ("some", "ash", "birch", thing))
        # Also where nothing would come of it.
        world.weave([("part", "ash")])
        self.assert_no_row(world, ("some", "ash", "birch", 301))
        self.assert_no_row(world, ("send", "ash", "fir"))

    def test_things_of_every_kind(self):
        world = world_of(SIT)
        for thing in ODD_THINGS + (0, "", "do", (), ((),), SIT[:1], SIT[1:], [SIT], (SIT,)):
            self.assert_no_row(world, thing)

    def test_what_was_done_ahead_stands(self):
        rows = [SIT, OPEN, ("part", "elm"), ("send", "ash", "birch"), ("do", "ash", AMY, "say", "", "oh")]
        for at in range(len(rows) + 1):
            world, other = world_of(), world_of(*rows[:at])
            with self.assertRaises(NoRow) as caught:
                world.weave(rows[:at] + [("send", "ash", "fir")] + rows[at:] + [None])
            self.assertEqual(caught.exception.number, at)
            self.assertEqual(told_of_world(world), told_of_world(other))
            self.assertEqual(world.weave([("send", "ash", "elm")]), other.weave([("send", "ash", "elm")]))

    def test_houses_of_other_kinds(self):
        world = world_of(SIT)
        for thing in ODD_THINGS + (0, "", "fir", "Ash", "abcdefghi", ("ash",), ["ash"], "amy@ash"):
            with self.assertRaises(NoHouse) as caught:
                world.web(thing)
            self.assertIs(caught.exception.house, thing)


def chance_row(chance, world):
    """A row by chance."""
    houses = world.houses()
    house, other = chance.choice(houses), chance.choice(houses)
    word = chance.choice(("do",) * 8 + ("send", "some", "some", "fetch", "fetch", "lie", "part", "meet", "meet"))
    if word == "do":
        who = chance.choice([person for person in PEOPLE if person.split("@")[1] == house])
        kind = chance.choice(("seat",) * 5 + ("ranks", "ranks", "door", "say", "strike", "move"))
        about = chance.choice((who, who, AMY, BOB, CYD, DAN)) if kind == "seat" else ""
        return (word, house, who, kind, about, chance_body(chance, kind, world.web(house).names()))
    if word == "lie":
        known = world.web(other)
        one = known.both(chance.choice(known.names()))[0]
        return (word, house, one if chance.random() < 0.5 else altered(one, after=one[5][:1]))
    if word in ("part", "meet"):
        return (word, house)
    return (word, house, other, chance.randrange(6)) if word == "some" else (word, house, other)


class ByHand:
    """A world's rows done by houses, found in another way."""

    def __init__(self, houses, person):
        self.houses = {house: House(house) for house in houses}
        first = self.houses[houses[0]].begin(person)
        for house in houses[1:]:
            self.houses[house].told(first)
        self.parted = set()

    def do(self, row):
        word, house, rest = row[0], self.houses[row[1]], row[2:]
        if word in ("part", "meet"):
            (self.parted.add if word == "part" else self.parted.discard)(row[1])
        elif word == "lie":
            house.hear([rest[0]])
        elif word == "do":
            try:
                house.do(rest[0], rest[1], about=rest[2], body=rest[3])
            except ValueError:
                pass
        elif not self.parted & {row[1], row[2]}:
            self.between(word, house, self.houses[row[2]], row)

    def between(self, word, house, other, row):
        deeds = house.answers(house.web().names())
        if word == "send":
            other.hear(deeds)
        elif word == "some":
            known = other.answers(other.web().names())
            other.hear([one for one in deeds if one not in known][:row[3]][::-1])
        else:
            while True:
                many = len(house.web())
                house.hear(other.answers(house.asks()))
                if len(house.web()) == many:
                    break


class ByChance(unittest.TestCase):
    def test_rows_by_chance(self):
        for seed in range(25):
            chance = random.Random(seed)
            world, hand = world_of(), ByHand(["ash", "birch", "elm"], AMY)
            rows = [SIT, OPEN, ("send", "ash", "birch"), ("send", "ash", "elm")]
            for row in rows:
                hand.do(row)
            world.weave(rows)
            for at in range(60):
                row = chance_row(chance, world)
                world.weave([row])
                hand.do(row)
            for house in world.houses():
                self.assertEqual(told_of(world.web(house)), told_of(hand.houses[house].web()))

    def test_houses_that_know_all_are_one(self):
        for seed in range(25):
            chance, world = random.Random(seed), world_of(SIT, OPEN)
            for at in range(60):
                world.weave([chance_row(chance, world)])
            world.weave([("meet", house) for house in world.houses()])
            for at in range(2):
                for house in world.houses():
                    world.weave([("send", house, other) for other in world.houses()])
            self.assertIs(world.is_one(), True)
            told = [told_of(world.web(house)) for house in world.houses()]
            self.assertEqual(told[0], told[1])
            self.assertEqual(told[0], told[2])
            self.assertIn(seat(AMY), told[0]["now"])


if __name__ == "__main__":
    unittest.main()

"""[5]: what is a deed, which part isn't as told, and keys."""

import itertools
import unittest

from branchedhall.deeds import KINDS, WORDS, key_of, look_at_deed
from branchedhall.errors import NoDeed
from tests import samples
from tests.samples import ALL_WANTED, BEGIN, DOOR, EDGE_DEEDS, MOVE, ODD_THINGS, ONE, ONE_OF_EACH, OWN, PEOPLE, RANKS
from tests.samples import SAY, SEAT, SEVEN, SIX, STRIKE, TWENTY, TWO, WANTED, WHO, altered

NO_PERSONS = ("", "amy", "amy@", "@ash", "amy@ash@ash", "Amy@ash", "amy@abcdefghi", "abcdefghi@ash", "amy@ash ")
NO_NAMES = (("ash", -1), ("ash", 100000), ("ash", True), ("ash", False), ("", 0), ("abcdefghi", 0), ("Ash", 0),
            ("ash", "0"), ("ash",), ("ash", 0, 0), ["ash", 0], "ash:0", ("amy@ash", 0))
NO_RULES = (True, False, 0, 3, -1, 12, "1", "2", "", None, (1,), [1], ())


class Looks(unittest.TestCase):
    def assert_deed(self, thing):
        self.assertIsNone(look_at_deed(thing))
        self.assertIsNone(look_at_deed(thing=thing))

    def assert_none(self, thing, part):
        for ask in (lambda: look_at_deed(thing), lambda: look_at_deed(thing=thing)):
            with self.assertRaises(NoDeed) as caught:
                ask()
            self.assertEqual(caught.exception.part, part)
            self.assertIs(part is None, caught.exception.part is None)

    def assert_wrong(self, deed, part, things):
        for thing in things:
            self.assert_none(altered(deed, **{part: thing}), part)


class OrdinaryDeeds(Looks):
    def test_one_of_each_kind(self):
        self.assertEqual(tuple(deed[1] for deed in ONE_OF_EACH), KINDS)
        for deed in ONE_OF_EACH:
            self.assert_deed(deed)

    def test_edges(self):
        for deed in EDGE_DEEDS:
            self.assert_deed(deed)

    def test_tables(self):
        self.assertEqual(KINDS, ("begin", "seat", "ranks", "door", "say", "strike", "move"))
        self.assertEqual(WORDS, ("bar", "call", "door", "move", "out", "ranks", "say", "strike"))
        self.assertIsInstance(KINDS, tuple)
        self.assertIsInstance(WORDS, tuple)


class NoTuplesOfSeven(Looks):
    def test_other_kinds(self):
        for thing in ODD_THINGS + (0, 1, (), "", "begin", "1234567", b"1234567", range(7), set(range(7))):
            self.assert_none(thing, None)

    def test_lists(self):
        for deed in ONE_OF_EACH:
            self.assert_none(list(deed), None)
            self.assert_none({part: part for part in deed[:3]}, None)

    def test_fewer_and_more(self):
        for deed in ONE_OF_EACH:
            for length in range(7):
                self.assert_none(deed[:length], None)
            self.assert_none(deed + ((),), None)
            self.assert_none(deed + deed, None)
            self.assert_none((deed,), None)

    def test_tuples_of_seven_other_things(self):
        self.assert_none((None,) * 7, "name")
        self.assert_none(((),) * 7, "name")


class WrongParts(Looks):
    def test_name(self):
        for deed in ONE_OF_EACH:
            self.assert_wrong(deed, "name", ODD_THINGS + NO_NAMES)

    def test_kind(self):
        no_kinds = ("", "Begin", "begin ", "beg", "seats", "in", "open", "out", "bar", "call", ("say",), ["say"], 0)
        for deed in ONE_OF_EACH:
            self.assert_wrong(deed, "kind", ODD_THINGS + no_kinds)

    def test_who(self):
        for deed in ONE_OF_EACH:
            self.assert_wrong(deed, "who", ODD_THINGS + NO_PERSONS)

    def test_about_of_a_seat(self):
        self.assert_wrong(SEAT, "about", ODD_THINGS + NO_PERSONS)

    def test_about_of_other_kinds(self):
        for deed in ONE_OF_EACH:
            if deed[1] != "seat":
                self.assert_wrong(deed, "about", ODD_THINGS + ("amy@ash", "bob@birch", "-", " ", "amy", 0))

    def test_begin_body(self):
        self.assert_wrong(BEGIN, "body", ODD_THINGS + ((), (1,), (1, None, None), [1, None], 1, None, "1", (None, 1)))
        self.assert_wrong(BEGIN, "body", [(rules, None) for rules in NO_RULES + ODD_THINGS])
        self.assert_wrong(BEGIN, "body", [(1, elder) for elder in NO_NAMES + ((), "", 0)])
        self.assert_wrong(BEGIN, "body", [(2, elder) for elder in ODD_THINGS if elder is not None])

    def test_seat_body(self):
        self.assert_wrong(SEAT, "body", ODD_THINGS)
        self.assert_wrong(SEAT, "body", ("", "In", "in ", "call", "bar", "open", "asked", "inout", ("in",), 0, 1))

    def test_door_body(self):
        self.assert_wrong(DOOR, "body", ODD_THINGS + ("", "shut", "Open", "open ", "ask", "in", "called", ("open",), 0))

    def test_say_body(self):
        self.assert_wrong(SAY, "body", ODD_THINGS + (0, 1, ("a",), ["good", "day"]))
        self.assert_wrong(SAY, "body", ("a" * 81, " " * 81, "a" * 100))
        for sign in [chr(code) for code in range(32)] + ["\x7f", "\x80", "\xa0", "\xe4", "\u2028"]:
            self.assert_wrong(SAY, "body", (sign, sign + "a", "a" + sign, "a" + sign + "b"))

    def test_say_body_of_each_sign(self):
        for code in range(32, 127):
            self.assert_deed(altered(SAY, body=chr(code)))
        for length in range(81):
            self.assert_deed(altered(SAY, body="x" * length))

    def test_strike_body(self):
        self.assert_wrong(STRIKE, "body", ODD_THINGS + NO_NAMES + (None, (), "", 0, "birch"))

    def test_move_body(self):
        self.assert_wrong(MOVE, "body", ODD_THINGS + NO_RULES + ((2, None),))

    def test_bodies_of_other_kinds(self):
        for deed, other in itertools.permutations(ONE_OF_EACH, 2):
            # What a seat or a door tells may be said, too.
            if not (deed[1] == "say" and isinstance(other[4], str)):
                self.assert_none(altered(deed, body=other[4]), "body")


class RanksBodies(Looks):
    def assert_no_body(self, *bodies):
        self.assert_wrong(RANKS, "body", bodies)

    def test_shapes(self):
        self.assert_no_body(*ODD_THINGS)
        self.assert_no_body((), (PEOPLE,), (PEOPLE, WANTED, ()), [PEOPLE, WANTED], PEOPLE, ("", ""), ((), ""), "", 0)
        self.assert_no_body(*[(thing, WANTED) for thing in ODD_THINGS])
        self.assert_no_body(*[(PEOPLE, thing) for thing in ODD_THINGS])
        self.assert_no_body((list(PEOPLE), WANTED), (PEOPLE, list(WANTED)), (dict(PEOPLE), WANTED), (WANTED, PEOPLE))

    def test_rows_of_people(self):
        rows = ODD_THINGS + ((), ("amy@ash",), ("amy@ash", 1, 1), ["amy@ash", 1], (1, "amy@ash"), "ab", ("say", 1))
        self.assert_no_body(*[((row,), ()) for row in rows])
        self.assert_no_body(*[((PEOPLE[0], row), ()) for row in rows])
        self.assert_no_body(*[(((person, 1),), ()) for person in NO_PERSONS + ODD_THINGS])

    def test_rows_of_words(self):
        rows = ODD_THINGS + ((), ("say",), ("say", 1, 1), ["say", 1], (1, "say"), "ab", ("amy@ash", 1))
        self.assert_no_body(*[((), (row,)) for row in rows])
        self.assert_no_body(*[((), (WANTED[0], row)) for row in rows])
        words = ("", "begin", "seat", "in", "called", "barred", "Say", "say ", "sa", "calls", "asked")
        self.assert_no_body(*[((), ((word, 1),)) for word in words + ODD_THINGS])

    def test_each_word(self):
        for word in WORDS:
            self.assert_deed(altered(RANKS, body=((), ((word, 1),))))

    def test_ranks(self):
        for rank in (-1, 101, True, False, None, "1", 1.5, (), [1]) + ODD_THINGS:
            self.assert_no_body(((("amy@ash", rank),), ()), ((), (("say", rank),)))
        for rank in range(101):
            self.assert_deed(altered(RANKS, body=((("amy@ash", rank),), (("say", rank),))))

    def test_unsorted(self):
        self.assert_no_body((PEOPLE[::-1], ()), ((), WANTED[::-1]), (PEOPLE, ALL_WANTED[::-1]))
        self.assert_no_body(((PEOPLE[0], PEOPLE[2], PEOPLE[1]), WANTED), ((), (("say", 0), ("call", 1))))
        self.assert_no_body(((("b@a", 1), ("a@b", 2)), ()))

    def test_sorted_by_the_whole_person(self):
        self.assert_deed(altered(RANKS, body=((("a@z", 9), ("aa@a", 1), ("b@a", 5)), ())))
        self.assert_no_body(((("aa@a", 1), ("a@z", 9)), ()))

    def test_twice(self):
        for ranks in ((1, 1), (1, 2), (2, 1)):
            self.assert_no_body((tuple(("amy@ash", rank) for rank in ranks), ()))
            self.assert_no_body(((), tuple(("say", rank) for rank in ranks)))

    def test_as_many_as_may_be(self):
        self.assertEqual(len(TWENTY), 20)
        self.assert_deed(altered(RANKS, body=(TWENTY, ())))
        more = TWENTY + (("u@ash", 1),)
        self.assert_no_body((more, ()), (more, WANTED), (more + (("v@ash", 1),), ()))
        self.assert_deed(altered(RANKS, body=(more[1:], ALL_WANTED)))


class AfterAndLeave(Looks):
    def assert_no_names(self, deed, *things):
        self.assert_wrong(deed, "after", things)
        self.assert_wrong(deed, "leave", things)

    def test_none_for_begin(self):
        self.assert_no_names(BEGIN, ONE, TWO, SIX, *ODD_THINGS)
        self.assert_none(altered(BEGIN, after=ONE, leave=ONE), "after")

    def test_some_for_other_kinds(self):
        for deed in ONE_OF_EACH[1:]:
            self.assert_no_names(deed, (), *ODD_THINGS)
            self.assert_none(altered(deed, after=(), leave=()), "after")
            self.assert_deed(altered(deed, after=SIX, leave=ONE))
            self.assert_deed(altered(deed, after=ONE, leave=SIX))

    def test_at_most_six(self):
        for deed in ONE_OF_EACH[1:]:
            for many in range(1, 7):
                self.assert_deed(altered(deed, after=SIX[:many], leave=SIX[6 - many:]))
            self.assert_no_names(deed, SEVEN, SEVEN + (("zzz", 0),))

    def test_unsorted_and_twice(self):
        for deed in ONE_OF_EACH[1:]:
            self.assert_no_names(deed, TWO[::-1], ONE + ONE, TWO + TWO[1:], SIX[::-1], SIX[1:] + SIX[:1])
            self.assert_no_names(deed, (("ash", 10), ("ash", 9)), (("b", 0), ("a", 1)))
            self.assert_deed(altered(deed, after=(("ash", 9), ("ash", 10)), leave=(("a", 1), ("b", 0))))

    def test_its_own_name(self):
        for deed in ONE_OF_EACH[1:]:
            self.assert_no_names(deed, (OWN,), ONE + (OWN,), (OWN, ("birch", 3)))
            self.assert_deed(altered(deed, after=(("ash", 6),), leave=(("birch", 5),)))

    def test_other_things(self):
        for deed in ONE_OF_EACH[1:]:
            self.assert_no_names(deed, list(ONE), OWN, ("ash", 0), "ash:0", dict(TWO), *[(thing,) for thing in NO_NAMES])
            self.assert_no_names(deed, *[(thing,) for thing in ODD_THINGS])
            self.assert_no_names(deed, *[ONE + (thing,) for thing in ODD_THINGS + NO_NAMES])

    def test_the_house(self):
        for deed in ONE_OF_EACH:
            self.assert_none(altered(deed, who="amy@birch"), "house")
            self.assert_none(altered(deed, who="ash@amy"), "house")
            self.assert_none(altered(deed, name=("birch", 9)), "house")
            self.assert_deed(altered(deed, name=("birch", 9), who="amy@birch"))


class TheFirstWrongPart(Looks):
    def test_all_that_are_wrong_together(self):
        wrong = {"name": ("ash", -1), "kind": "beg", "who": "amy", "about": "-", "body": None, "after": None,
                 "leave": ("ash", 0)}
        for deed in ONE_OF_EACH:
            for many in range(1, 8):
                for parts in itertools.combinations(samples.PLACES, many):
                    spoiled = altered(deed, **{part: wrong[part] for part in parts})
                    self.assert_none(spoiled, parts[0])

    def test_the_house_is_last(self):
        wrong = {"kind": "beg", "about": "-", "body": None, "after": None, "leave": ("ash", 0)}
        for deed in ONE_OF_EACH:
            for part in wrong:
                self.assert_none(altered(deed, who="amy@birch", **{part: wrong[part]}), part)
            self.assert_none(altered(deed, name=("birch", 9), who="amy"), "who")

    def test_told_alike_again(self):
        spoiled = altered(RANKS, body=([["amy@ash", 1]], {"say": 1}))
        for again in range(3):
            self.assert_none(spoiled, "body")
        self.assertEqual(spoiled[4], ([["amy@ash", 1]], {"say": 1}))
        things = [list(SAY)]
        self.assert_none(things[0], None)
        self.assertEqual(things, [list(SAY)])


class Keys(unittest.TestCase):
    def test_keys_of_all_kinds(self):
        keys = [("begin", ""), ("seat", "bob@birch"), ("ranks", ""), ("door", ""), None, None, ("move", "")]
        for deed, key in zip(ONE_OF_EACH, keys):
            self.assertEqual(key_of(deed), key)
            self.assertEqual(key_of(deed=deed), key)
            self.assertIsInstance(key_of(deed), tuple if key else type(None))

    def test_it_is_about_not_who(self):
        self.assertEqual(key_of(altered(SEAT, about="cyd@ash")), ("seat", "cyd@ash"))
        self.assertEqual(key_of(altered(SEAT, about=WHO, body="in")), ("seat", WHO))

    def test_bodies_change_no_key(self):
        for body in ("in", "out", "called", "barred"):
            self.assertEqual(key_of(altered(SEAT, body=body)), ("seat", "bob@birch"))
        for body in ("begin", "seat", "door"):
            self.assertIsNone(key_of(altered(SAY, body=body)))


if __name__ == "__main__":
    unittest.main()

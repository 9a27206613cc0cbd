"""[18], [22] and [23] of webs that know many names: what is told of them, and that no deed is looked at by all of them.

No clock is asked: the steps that Python does are counted.
"""

import unittest

from branchedhall.errors import Full
from branchedhall.houses import House
from branchedhall.webs import MOST, Web
from branchedhall.worlds import World
from tests.halls import BEGIN, DOOR, seat
from tests.samples import altered
from tests.steps import steps_of
from tests.stories import told_of

WHO = "p@a"
FIRST, SAT = ("a", 0), ("a", 1)
FIRST_DEED = (FIRST, "begin", WHO, "", (1, None), (), ())
SIT = (SAT, "seat", WHO, WHO, "in", (FIRST,), (FIRST,))
HERE = {BEGIN: FIRST, seat(WHO): SAT}


def say(number, after, leave=(FIRST, SAT)):
    """A say by its number, behind some names."""
    return (("a", number), "say", WHO, "", "x", after, leave)


def in_a_row(many):
    """Says up to so many names, each behind the one ahead."""
    return [say(number, (("a", number - 1),)) for number in range(2, many)]


def side_by_side(many):
    """Says up to so many names, each behind the seat."""
    return [say(number, (SAT,)) for number in range(2, many)]


def for_ever(many):
    """Says up to so many names, each behind another one that never comes."""
    return [say(number, (("b", number),), (FIRST, ("b", number))) for number in range(1, many)]


def rows_of(many):
    """Rows of a world: a seat, and says in a row, told one by one."""
    return [("do", "a", WHO, "seat", WHO, "in"), *[("lie", "a", one) for one in in_a_row(many)]]


def rows_of_dos(many):
    """Rows of a world: a seat, and says that the house writes itself."""
    return [("do", "a", WHO, "seat", WHO, "in"), *[("do", "a", WHO, "say", "", "x")] * (many - 2)]


def put_all(deeds):
    """A web with deeds put one by one, and how each one stood then."""
    web = Web(FIRST_DEED)
    return web, [web.put(one) for one in deeds]


class Told(unittest.TestCase):
    def assert_all_let(self, web, ends):
        """Sees to it that all 300 names are let in, with what is told of them."""
        names = [("a", number) for number in range(MOST)]
        self.assertEqual((web.names(), len(web), web.missing()), (names, 300, []))
        self.assertEqual({web.stand(name) for name in names}, {"let"})
        self.assertEqual({web.why(name) for name in names}, {None})
        self.assertEqual((web.ahead(SAT), web.behind(SAT)), ({BEGIN: FIRST}, HERE))
        for name in names[2:]:
            self.assertEqual((web.ahead(name), web.behind(name)), (HERE, HERE))
        self.assertEqual((web.ends(), web.now(), web.paper(), web.soft()), (ends, HERE, [], []))
        with self.assertRaises(Full):
            web.put(say(300, (SAT,)))

    def test_each_behind_the_one_ahead(self):
        world = World(["a"], WHO)
        self.assertEqual(world.weave(rows_of(MOST)), [SAT] + [["let"]] * 298)
        web = world.web("a")
        self.assert_all_let(web, [("a", 299)])
        for number in (0, 1, 2, 150, 299):
            self.assertEqual(web.past(("a", number)), [("a", other) for other in range(number + 1)])
        self.assertEqual(web.may_go(), [("a", number) for number in range(2, 299)])
        self.assertEqual(world.weave([("lie", "a", say(300, (("a", 299),))), ("lie", "a", say(299, (("a", 298),)))]),
                         [["full"], ["let"]])

    def test_the_last_one_first(self):
        deeds = in_a_row(MOST)[::-1]
        web, stood = put_all(deeds)
        self.assertEqual(stood, ["waits"] * 298)
        names = [("a", number) for number in range(2, MOST)]
        self.assertEqual(([web.stand(name) for name in names], web.missing()), (["waits"] * 298, [SAT]))
        self.assertEqual((web.ends(), web.now(), web.hall()), ([FIRST], {BEGIN: FIRST}, {FIRST: FIRST_DEED}))
        self.assertEqual(web.put(SIT), "let")
        self.assert_all_let(web, [("a", 299)])
        self.assertEqual(web.past(("a", 299)), web.names())

    def test_side_by_side(self):
        web, stood = put_all([SIT, *side_by_side(MOST)])
        self.assertEqual(stood, ["let"] * 299)
        self.assert_all_let(web, [("a", number) for number in range(2, MOST)])
        self.assertEqual((web.may_go(), web.past(("a", 299))), ([], [FIRST, SAT, ("a", 299)]))

    def test_waiting_for_what_never_comes(self):
        web, stood = put_all(for_ever(MOST))
        self.assertEqual(stood, ["waits"] * 299)
        names = [("a", number) for number in range(1, MOST)]
        self.assertEqual(({web.stand(name) for name in names}, {web.why(name) for name in names}), ({"waits"}, {None}))
        self.assertEqual(web.missing(), [("b", number) for number in range(1, MOST)])
        self.assertEqual((web.names(), web.ends()), ([FIRST] + names, [FIRST]))
        self.assertEqual((web.now(), web.paper()), ({BEGIN: FIRST}, []))
        with self.assertRaises(Full):
            web.put(say(300, (FIRST,)))

    def test_twins_of_many(self):
        for order in (1, -1):
            web = put_all([SIT, *in_a_row(MOST)])[0]
            for one in in_a_row(MOST)[::order]:
                self.assertEqual(web.put(altered(one, body="y")), "barred")
                # What isn't a twin yet hangs on one, or stands ahead of all of them.
                number = one[0][1]
                end = 1 if order == 1 else number - 1
                self.assertEqual((web.ends(), web.now()), ([("a", end)], HERE))
                if number + order in range(2, MOST):
                    self.assertEqual(web.why(("a", number + order)), ("ahead", "") if order == 1 else None)
            self.assertEqual({web.why(one[0]) for one in in_a_row(MOST)}, {("twin", "")})


class Kept(unittest.TestCase):
    def test_twins_go_their_own_ways(self):
        # What waits, and for what, is each web's own, whatever the other one is told.
        web = put_all(in_a_row(6)[::-1])[0]
        other = web.twin()
        late = say(9, (SAT, ("b", 1)))
        self.assertEqual(other.put(late), "waits")
        self.assertEqual((web.missing(), other.missing()), ([SAT], [SAT, ("b", 1)]))
        self.assertEqual((web.put(SIT), web.ends()), ("let", [("a", 5)]))
        self.assertEqual((other.ends(), other.stand(("a", 2))), ([FIRST], "waits"))
        self.assertEqual(web.put(altered(say(3, (("a", 2),)), body="y")), "barred")
        self.assertEqual((web.ends(), web.put(late)), ([("a", 2)], "waits"))
        self.assertEqual((other.put(SIT), other.ends()), ("let", [("a", 5)]))
        self.assertEqual(told_of(other), told_of(put_all([SIT, *in_a_row(6), late])[0]))

    def test_twins_that_are_told_unlike_deeds_by_one_name(self):
        call = (("a", 2), "seat", WHO, "q@b", "called", (SAT,), (FIRST, SAT))
        door = (("a", 2), "door", WHO, "", "open", (SAT,), (FIRST, SAT))
        web = put_all([SIT, say(3, (SAT,))])[0]
        for one, key in ((call, seat("q@b")), (door, DOOR)):
            other = web.twin()
            self.assertEqual([other.put(one), other.put(say(4, (("a", 2), ("a", 3))))], ["let", "let"])
            self.assertEqual((other.ahead(("a", 4)), other.now()), ({**HERE, key: ("a", 2)}, {**HERE, key: ("a", 2)}))
        self.assertEqual((web.ends(), web.now()), ([("a", 3)], HERE))

    def test_pasts_of_what_comes_behind_one_taken_out(self):
        web = put_all([SIT, say(2, (SAT,)), (("a", 3), "ranks", WHO, "", (((WHO, 100),), ()), (SAT,), (FIRST, SAT))])[0]
        self.assertEqual(web.put(altered(say(2, (SAT,)), body="y")), "barred")
        self.assertEqual(web.put(say(4, (SAT,))), "let")
        ranked = (FIRST, SAT, ("a", 3))
        # The ranks deed is let in, but stands beside the say, not in its past.
        self.assertEqual(web.put(say(5, (("a", 4),), ranked)), "barred")
        self.assertEqual(web.why(("a", 5)), ("past", "leave"))
        self.assertEqual(web.put(say(6, (("a", 3), ("a", 4)), ranked)), "let")
        self.assertEqual((web.may_go(), web.past(("a", 6))), ([("a", 4)], [FIRST, SAT, ("a", 3), ("a", 4), ("a", 6)]))

    def test_pasts_in_a_twin_of_what_comes_behind_one_taken_out(self):
        # No two names share a bit, whatever was taken out ahead of the twin.
        ranks = (("a", 3), "ranks", WHO, "", (((WHO, 100),), ()), (SAT,), (FIRST, SAT))
        web = put_all([SIT, say(2, (SAT,)), ranks])[0]
        web.put(altered(say(2, (SAT,)), body="y"))
        twin = web.twin()
        for each in (twin, web):
            self.assertEqual((each.put(say(4, (SAT,))), each.put(say(5, (("a", 4),), (FIRST, SAT, ("a", 3))))),
                             ("let", "barred"))
            self.assertEqual((each.why(("a", 5)), each.may_go()), (("past", "leave"), []))

    def test_what_was_barred_already_is_barred_by_what_it_names(self):
        # Whether in its after, in its leave or in both: a name that is barred later is the first due.
        open_door = (("a", 2), "door", WHO, "", "open", (SAT,), (FIRST, SAT))
        said, chat = say(3, (("a", 2),)), say(4, (("a", 3),))
        wrong = [
            ((("b", 1), "say", "q@b", "", "x", (("a", 3),), (FIRST,)), ("leave", "seat"), [3, 2, 1]),
            ((("b", 2), "say", "q@b", "", "x", (("a", 3),), (FIRST, ("a", 2))), ("leave", "other"), [2, 3, 1]),
            ((("b", 3), "say", "q@b", "", "x", (SAT,), (FIRST, ("a", 4))), ("past", "leave"), [4, 1]),
            ((("b", 4), "strike", "q@b", "", ("a", 3), (("a", 4),), (FIRST,)), ("leave", "seat"), [3, 4, 1]),
            ((("b", 5), "say", "q@b", "", "x", (("b", 1),), (FIRST,)), ("ahead", ""), [3]),
        ]
        deeds = [SIT, open_door, said, chat]
        for late in (False, True):
            for one, why, numbers in wrong:
                for number in numbers:
                    # Where it comes late it is barred at once, else it waited first.
                    web = put_all([*deeds, wrong[0][0], one] if late else [one, wrong[0][0], *deeds])[0]
                    self.assertEqual(web.why(one[0]), why)
                    twin = web.twin()
                    for each in (web, twin):
                        told = each.deed(("a", number))
                        self.assertEqual(each.put(altered(told, who="z@a")), "barred")
                        self.assertEqual((each.why(("a", number)), each.why(one[0])), (("twin", ""), ("ahead", "")))
                        anew = put_all([*deeds, wrong[0][0], one, altered(told, who="z@a")])[0]
                        self.assertEqual(told_of(each), told_of(anew))

    def test_pasts_of_twins_that_hear_in_other_orders(self):
        web = put_all([SIT])[0]
        other = web.twin()
        deeds = [say(2, (SAT,)), say(3, (SAT,)), say(4, (("a", 2),)), say(5, (("a", 3),))]
        for one, two in zip(deeds, deeds[1::-1] + deeds[:1:-1]):
            web.put(one)
            other.put(two)
        strikes = [(("a", 6), "strike", WHO, "", ("a", 3), (("a", 4),), (FIRST, SAT)),
                   (("a", 7), "strike", WHO, "", ("a", 2), (("a", 4),), (FIRST, SAT))]
        for each in (web, other):
            self.assertEqual([each.put(one) for one in strikes], ["barred", "let"])
            self.assertEqual(each.why(("a", 6)), ("past", "strike"))
        self.assertEqual(told_of(web), told_of(other))

    def test_a_barred_do_keeps_nothing_of_it(self):
        house = House("a")
        house.begin(WHO)
        house.hear([SIT, say(5, (("a", 6),)), say(7, (("b", 0),))])
        told = told_of(house.web())
        self.assertEqual(World(["a"], WHO).weave([("do", "a", WHO, "say", "", "x")]), [("barred", "leave", "seat")])
        for kind, body in (("begin", (1, None)), ("seat", "called"), ("seat", "barred")):
            with self.assertRaises(ValueError):
                house.do(WHO, kind, about=WHO if kind == "seat" else "", body=body)
            self.assertEqual(told_of(house.web()), told)
        self.assertEqual(house.do(WHO, "say", body="x")[0], ("a", 8))

    def test_words_let_go_and_brought_back(self):
        web = put_all([SIT, *in_a_row(5)])[0]
        hall, said = web.hall(), web.deed(("a", 2))
        web.let_go([("a", 2)])
        self.assertEqual(web.hall(), {**hall, ("a", 2): altered(said, body="")})
        self.assertEqual(web.twin().hall(), web.hall())
        self.assertEqual((web.put(said), web.hall(), web.may_go()), ("let", hall, [("a", 2), ("a", 3)]))

    def test_an_end_again(self):
        # Of two deeds behind one the first is taken out, then the second: only then it is an end again.
        web = put_all([SIT, *side_by_side(4)])[0]
        self.assertEqual(web.ends(), [("a", 2), ("a", 3)])
        web.put(altered(say(2, (SAT,)), body="y"))
        self.assertEqual(web.ends(), [("a", 3)])
        web.put(altered(say(3, (SAT,)), body="y"))
        self.assertEqual(web.ends(), [SAT])


class Steps(unittest.TestCase):
    def assert_no_square(self, act):
        """Sees to it that of twice the names there are about twice the steps, not four times as many."""
        few, many = steps_of(lambda: act(MOST // 2)), steps_of(lambda: act(MOST))
        self.assertGreater(few, 1000)
        self.assertLess(many, few * 5 // 2)

    def test_each_behind_the_one_ahead(self):
        self.assert_no_square(lambda many: World(["a"], WHO).weave(rows_of(many)))

    def test_the_last_one_first(self):
        self.assert_no_square(lambda many: put_all([*in_a_row(many)[::-1], SIT]))

    def test_side_by_side(self):
        self.assert_no_square(lambda many: put_all([SIT, *side_by_side(many)]))

    def test_waiting_for_what_never_comes(self):
        self.assert_no_square(lambda many: put_all(for_ever(many)))

    def test_twins_of_many(self):
        def act(many):
            says = in_a_row(many)
            put_all([SIT, *says, *[altered(one, body="y") for one in says[::-1]]])
        self.assert_no_square(act)

    def test_one_of_two_twins_is_copied(self):
        web = put_all([SIT, *in_a_row(MOST - 5)])[0]
        twin = web.twin()
        first, second = [steps_of(lambda: each.put(say(298, (SAT,)))) for each in (web, twin)]
        # What the one that changes leaves behind is the other's own from then on.
        self.assertLess(second * 2, first)
        self.assertEqual(steps_of(lambda: web.put(say(299, (SAT,)))), steps_of(lambda: twin.put(say(299, (SAT,)))))

    def test_what_a_house_writes_itself(self):
        self.assert_no_square(lambda many: World(["a"], WHO).weave(rows_of_dos(many)))


if __name__ == "__main__":
    unittest.main()

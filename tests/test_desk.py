"""[26] and [27], and [2] of them: the desk, its rows, its answers, and its refusals in their order."""

import unittest

from branchedhall.desk import Desk
from branchedhall.errors import Barred, Full, NoDeed, NoHouse, NoHouses, NoName, NoRow, TooMany, Twin
from branchedhall.worlds import World
from tests.samples import ODD_THINGS

START = ("world hall amy@ash 1 ash birch elm", "do hall amy@ash seat amy@ash in", "do hall amy@ash door - open",
         "send hall ash birch", "do hall bob@birch seat bob@birch in")
ASKS = ("now hall HOUSE", "ranks hall HOUSE", "seat hall HOUSE amy@ash", "ends hall HOUSE", "missing hall HOUSE",
        "soft hall HOUSE", "why hall HOUSE ash:0", "show hall HOUSE ash:0")


def desk_of(*rows):
    """A desk that was told some rows."""
    desk = Desk()
    for row in rows:
        desk.say(row)
    return desk


def told_of_desk(desk):
    """What a desk tells of all its worlds."""
    told = [len(desk), desk.say("names")]
    for name in desk.say("names").split(" ") if len(desk) else []:
        told.append(desk.say("same " + name))
        for house in ("ash", "birch", "elm"):
            for ask in ASKS:
                try:
                    told.append(desk.say(ask.replace("hall", name).replace("HOUSE", house)))
                except (NoHouse, NoName) as refusal:
                    told.append(str(type(refusal)))
    return told


class Worlds(unittest.TestCase):
    def test_none_at_first(self):
        desk = Desk()
        self.assertEqual((len(desk), desk.say("names")), (0, "-"))
        self.assertEqual(desk.say(row="names"), "-")

    def test_world_drop_and_names(self):
        desk = Desk()
        self.assertEqual(desk.say("world hall amy@ash 1 ash"), "ok")
        self.assertEqual(desk.say("world b bob@birch 2 birch ash elm fir gorse hazel"), "ok")
        self.assertEqual(desk.say("world abcdefgh amy@ash 1 ash birch"), "ok")
        self.assertEqual((len(desk), desk.say("names")), (3, "abcdefgh b hall"))
        self.assertEqual(desk.say("show b fir birch:0"), "birch:0 begin bob@birch - 2 - -")
        self.assertEqual(desk.say("drop b"), "ok")
        self.assertEqual((len(desk), desk.say("names")), (2, "abcdefgh hall"))
        with self.assertRaises(NoName):
            desk.say("drop b")
        desk.say("drop hall")
        desk.say("drop abcdefgh")
        self.assertEqual((len(desk), desk.say("names")), (0, "-"))

    def test_in_the_stead_of_one_there(self):
        desk = desk_of(*START)
        self.assertEqual(desk.say("world hall bob@birch 2 birch"), "ok")
        self.assertEqual((len(desk), desk.say("now hall birch")), (1, "begin=birch:0"))
        with self.assertRaises(NoHouse):
            desk.say("now hall ash")

    def test_ten_and_an_eleventh(self):
        desk = Desk()
        for letter in "abcdefghij":
            desk.say("world " + letter + " amy@ash 1 ash")
        self.assertEqual((len(desk), desk.say("names")), (10, "a b c d e f g h i j"))
        told = told_of_desk(desk)
        with self.assertRaises(TooMany) as caught:
            desk.say("world k amy@ash 1 ash")
        self.assertEqual(caught.exception.many, 11)
        self.assertEqual(told_of_desk(desk), told)
        # One that is there may be told anew.
        self.assertEqual(desk.say("world c bob@birch 1 birch"), "ok")
        self.assertEqual((len(desk), desk.say("now c birch")), (10, "begin=birch:0"))
        desk.say("drop a")
        self.assertEqual(desk.say("world k amy@ash 1 ash"), "ok")
        self.assertEqual(desk.say("names"), "b c d e f g h i j k")

    def test_worlds_are_their_own(self):
        desk = desk_of("world a amy@ash 1 ash birch", "world b amy@ash 1 ash birch", "do a amy@ash seat amy@ash in")
        self.assertEqual((desk.say("ends a ash"), desk.say("ends b ash")), ("ash:1", "ash:0"))
        other = Desk()
        self.assertEqual(len(other), 0)


class Doing(unittest.TestCase):
    def test_each_kind(self):
        desk = desk_of(*START)
        rows = [("seat bob@birch out", None), ("ranks - amy@ash=100,bob@birch=60;say=10", "ranks=ash:3"),
                ("door - asked", "door=ash:4"), ("move - 2", "move=ash:5"), ("strike - ash:2", None), ("say - good day", None),
                ("seat eve@fir barred", "seat/eve@fir=ash:8"), ("ranks - amy@ash=100;", "ranks=ash:9"),
                ("ranks - amy@ash=90;door=80", "ranks=ash:10")]
        number = 3
        for row, state in rows:
            if row.startswith("seat bob"):
                with self.assertRaises(Barred):
                    desk.say("do hall bob@birch " + row.replace("bob@birch", "amy@ash"))
                continue
            self.assertEqual(desk.say("do hall amy@ash " + row), "ash:" + str(number))
            if state:
                self.assertIn(state, desk.say("now hall ash").split(" "))
            number += 1
        self.assertEqual(desk.say("show hall ash ash:10"),
                         "ash:10 ranks amy@ash - amy@ash=90;door=80 ash:9 ash:0,ash:1,ash:9")

    def test_a_say_with_blanks_and_with_no_words(self):
        desk = desk_of(*START)
        for number, words in enumerate(("oh", "", " ", "  good   day ", "do hall", "!", "-", "a" * 80, "~"), 3):
            self.assertEqual(desk.say("do hall amy@ash say - " + words), "ash:" + str(number))
            self.assertTrue(desk.say("show hall ash ash:" + str(number)).endswith(" ash:0,ash:1 " + words))
        with self.assertRaises(NoRow):
            desk.say("do hall amy@ash say -")

    def test_a_house_called_none(self):
        desk = desk_of("world hall amy@none 1 none barred")
        self.assertEqual(desk.say("do hall amy@none seat amy@none in"), "none:1")
        desk.say("do hall amy@none door - open")
        desk.say("send hall none barred")
        self.assertEqual(desk.say("do hall bob@barred seat bob@barred in"), "barred:0")


class Telling(unittest.TestCase):
    def test_send_and_fetch(self):
        desk = desk_of(*START)
        self.assertEqual(desk.say("send hall birch elm"), "4")
        self.assertEqual(desk.say("send hall elm ash"), "4")
        self.assertEqual(desk.say("do hall amy@ash say - oh"), "ash:3")
        self.assertEqual(desk.say("send hall ash elm"), "5")
        self.assertEqual(desk.say("fetch hall birch ash"), "4")
        self.assertEqual(desk.say("fetch hall ash birch"), "5")
        self.assertEqual(desk.say("send hall birch birch"), "4")

    def test_part_and_meet(self):
        desk = desk_of(*START)
        self.assertEqual(desk.say("part hall birch"), "ok")
        for row in ("send hall ash birch", "send hall birch ash", "fetch hall ash birch", "fetch hall birch elm"):
            self.assertEqual(desk.say(row), "lost")
        self.assertEqual(desk.say("ends hall ash"), "ash:2")
        self.assertEqual(desk.say("send hall ash elm"), "3")
        self.assertEqual(desk.say("meet hall birch"), "ok")
        self.assertEqual(desk.say("send hall birch ash"), "4")

    def test_same(self):
        desk = desk_of(*START)
        self.assertEqual(desk.say("same hall"), "no")
        desk_rows = ("part hall birch", "send hall ash elm")
        for row in desk_rows:
            desk.say(row)
        self.assertEqual(desk.say("same hall"), "yes")
        desk.say("meet hall birch")
        self.assertEqual(desk.say("same hall"), "no")


class Asking(unittest.TestCase):
    def setUp(self):
        """ash knows all; amy bars bob while birch, who doesn't know, says something."""
        self.desk = desk_of(
            *START, "do hall amy@ash seat bob@birch called", "send hall birch ash",
            "do hall amy@ash ranks - amy@ash=100,bob@birch=60,cyd@ash=0;", "send hall ash birch",
            "do hall bob@birch say - well then", "do hall amy@ash seat bob@birch barred", "send hall birch ash")

    def test_now(self):
        self.assertEqual(self.desk.say("now hall elm"), "begin=ash:0")
        self.assertEqual(self.desk.say("now hall ash"),
                         "begin=ash:0 door=ash:2 ranks=ash:4 seat/amy@ash=ash:1 seat/bob@birch=ash:5")

    def test_ranks(self):
        self.assertEqual(self.desk.say("ranks hall ash"), "amy@ash=100 bob@birch=60")
        self.assertEqual(self.desk.say("ranks hall elm"), "amy@ash=100")
        self.desk.say("do hall amy@ash ranks - ;")
        self.assertEqual(self.desk.say("ranks hall ash"), "-")

    def test_seat(self):
        for house, person, seat in (("ash", "bob@birch", "barred"), ("birch", "bob@birch", "in"),
                                    ("elm", "bob@birch", "out"), ("ash", "zoe@zz", "out"), ("ash", "amy@ash", "in")):
            self.assertEqual(self.desk.say(f"seat hall {house} {person}"), seat)
        self.desk.say("do hall amy@ash seat zoe@zz called")
        self.assertEqual(self.desk.say("seat hall ash zoe@zz"), "called")

    def test_ends_missing_and_soft(self):
        self.assertEqual((self.desk.say("ends hall ash"), self.desk.say("ends hall elm")), ("ash:5,birch:1", "ash:0"))
        self.assertEqual(self.desk.say("soft hall ash"), "birch:1")
        self.assertEqual((self.desk.say("soft hall birch"), self.desk.say("missing hall ash")), ("-", "-"))

    def test_missing(self):
        # Only what was lied to a house misses anything: so a world is put there that was lied to.
        world = World(["ash", "birch"], "amy@ash")
        world.weave([("lie", "ash", (("birch", 2), "say", "bob@birch", "", "oh", (("birch", 1), ("elm", 10)), (("elm", 9),)))])
        self.desk.worlds["hall"] = world
        self.assertEqual(self.desk.say("missing hall ash"), "birch:1,elm:9,elm:10")
        self.assertEqual(self.desk.say("why hall ash birch:2"), "waits")

    def test_why(self):
        world = World(["ash", "birch"], "amy@ash")
        say = (("birch", 2), "say", "bob@birch", "", "oh", (("ash", 0),), (("ash", 0),))
        behind = (("birch", 3), "say", "bob@birch", "", "oh", (("birch", 2),), (("ash", 0),))
        begin = (("birch", 4), "begin", "bob@birch", "", (1, None), (), ())
        strike = (("birch", 5), "strike", "bob@birch", "", ("zz", 1), (("ash", 0),), (("ash", 0),))
        world.weave([("lie", "ash", one) for one in (say, behind, begin, strike)])
        self.desk.worlds["hall"] = world
        for number, told in ((2, "leave seat"), (3, "ahead"), (4, "here begun"), (5, "past strike")):
            self.assertEqual(self.desk.say(f"why hall ash birch:{number}"), told)
        world.weave([("lie", "ash", say[:4] + ("ah",) + say[5:])])
        self.assertEqual(self.desk.say("why hall ash birch:2"), "twin")
        self.assertEqual(self.desk.say("why hall ash ash:0"), "let")

    def test_show(self):
        self.assertEqual(self.desk.say("show hall ash ash:0"), "ash:0 begin amy@ash - 1 - -")
        row = "birch:1 say bob@birch - ! ash:4 ash:0,ash:4,birch:0 "
        self.assertEqual(self.desk.say("show hall ash birch:1"), row + "well then")
        self.desk.say("do hall amy@ash strike - birch:1")
        self.assertEqual(self.desk.say("show hall ash birch:1"), row)
        self.assertEqual(self.desk.say("show hall birch birch:1"), row + "well then")
        self.assertEqual(self.desk.say("show hall ash ash:6"), "ash:6 strike amy@ash - birch:1 ash:5,birch:1 ash:0,ash:1,ash:4")

    def test_asked_twice(self):
        told = told_of_desk(self.desk)
        self.assertEqual(told_of_desk(self.desk), told)


class Refused(unittest.TestCase):
    def assert_refused(self, desk, row, error, **values):
        told = told_of_desk(desk)
        with self.assertRaises(error) as caught:
            desk.say(row)
        self.assertIs(type(caught.exception), error)
        self.assertEqual({name: getattr(caught.exception, name) for name in values}, values)
        self.assertEqual(told_of_desk(desk), told)

    def test_no_text(self):
        desk = desk_of(*START)
        for thing in ODD_THINGS + (0, ("names",), ["names"], b"names"):
            self.assert_refused(desk, thing, NoRow, number=0)

    def test_line_feeds(self):
        desk = desk_of(*START)
        for row in ("names\n", "\nnames", "drop hall\n", "do hall amy@ash say - oh\n", "do hall amy@ash say - a\nb", "\n",
                    "names\nnames"):
            self.assert_refused(desk, row, NoRow, number=0)

    def test_words_too_few_too_many_and_without_signs(self):
        desk = desk_of(*START)
        good = ["world b amy@ash 1 ash", "drop hall", "names", "do hall amy@ash seat amy@ash out", "send hall ash birch",
                "do hall amy@ash door - asked", "fetch hall ash birch", "part hall ash", "meet hall ash", "now hall ash",
                "ranks hall ash", "seat hall ash amy@ash", "ends hall ash", "missing hall ash", "soft hall ash",
                "why hall ash ash:0", "show hall ash ash:0", "same hall", "do hall amy@ash strike - ash:1",
                "do hall amy@ash ranks - ;", "do hall amy@ash move - 2", "do hall amy@ash begin - 1"]
        for row in good:
            words = row.split(" ")
            for at in range(len(words)):
                self.assert_refused(desk, " ".join(words[:at]), NoRow, number=0)
                self.assert_refused(desk, " ".join(words[:at] + [""] + words[at:]), NoRow, number=0)
                self.assert_refused(desk, " ".join(words[:at] + [""] + words[at + 1:]), NoRow, number=0)
            for more in (" ", " 5", " ash:0", " amy@ash", " ash"):
                # Of a world there may be more houses.
                if not (row.startswith("world") and more == " ash"):
                    self.assert_refused(desk, row + more, NoRow, number=0)
            self.assert_refused(desk, " " + row, NoRow, number=0)
            self.assert_refused(desk, row.upper(), NoRow, number=0)
            self.assert_refused(desk, row.replace(" ", "\t") if " " in row else "names\t", NoRow, number=0)
        for word in ("", " ", "name", "some hall ash birch 5", "lie hall ash x", "say", "worlds", "-"):
            self.assert_refused(desk, word, NoRow, number=0)
        self.assert_refused(desk, "world b amy@ash 1", NoRow, number=0)
        self.assert_refused(desk, "do hall amy@ash say", NoRow, number=0)
        self.assert_refused(desk, "do hall amy@ash say -", NoRow, number=0)

    def test_words_that_cant_stand_there(self):
        desk = desk_of(*START)
        rows = ["world Hall amy@ash 1 ash", "world abcdefghi amy@ash 1 ash", "world b amy 1 ash", "world b amy@ 1 ash",
                "world b abcdefghi@ash 1 ash", "world b amy@abcdefghi 1 ash", "world b amy@ash 3 ash",
                "world b amy@ash 0 ash", "world b amy@ash 01 ash", "world b amy@ash one ash", "world b amy@ash 1 Ash",
                "world b amy@ash 1 abcdefghi", "world b amy@ash 1 ash birch-", "world b amy@ash 1 ash b@c",
                "world b amy@ash 12 ash", "world b amy@ash 1 ash 5",
                "drop abcdefghi", "drop 5", "drop hall!", "same Hall",
                "send hall ash abcdefghi", "send hall Ash birch", "fetch hall ash 5", "part hall a@b", "meet hall -",
                "now hall abcdefghi", "ranks hall ASH", "seat hall ash amy", "seat hall ash abcdefghi@ash",
                "seat hall ash -", "ends hall a1", "missing hall a.b", "soft hall a,b",
                "why hall ash ash", "why hall ash ash:", "why hall ash ash:01", "why hall ash ash:-1", "why hall ash Ash:0",
                "why hall ash ash:0,ash:1", "show hall ash -", "show hall ash :0", "show hall ash ash:0:0",
                "show hall Ash ash:0", "why hall abcdefghi ash:0",
                "do Hall amy@ash door - open", "do abcdefghi amy@ash door - open", "do hall amy door - open",
                "do hall amy@ash nod - open", "do hall amy@ash door x open", "do hall amy@ash door amy@ash open",
                "do hall amy@ash seat - in", "do hall amy@ash seat amy in", "do hall amy@ash door - Open",
                "do hall amy@ash door - open5", "do hall amy@ash ranks - amy@ash=5", "do hall amy@ash ranks - amy=5;",
                "do hall amy@ash ranks - amy@ash=05;", "do hall amy@ash strike - ash", "do hall amy@ash strike - -",
                "do hall amy@ash move - two", "do hall amy@ash begin - 1:", "do hall amy@ash say x oh",
                "do hall amy@ash say amy@ash oh", "do hall amy@5 say - oh", "do hall Amy@ash say - oh",
                "do hall amy@ash begin - :ash:0"]
        for row in rows:
            self.assert_refused(desk, row, NoRow, number=0)

    def test_no_name_by_which_nothing_is_kept(self):
        desk = desk_of(*START)
        rows = ["drop b", "do b amy@ash door - open", "send b ash birch", "fetch b ash birch", "part b ash", "meet b ash",
                "now b ash", "ranks b ash", "seat b ash amy@ash", "ends b ash", "missing b ash", "soft b ash",
                "why b ash ash:0", "show b ash ash:0", "same b",
                # Ahead of houses, deeds and bars.
                "send b zz zz", "now b zz", "do b amy@zz door - open", "do b amy@ash door - ajar", "show b zz zz:9"]
        for row in rows:
            self.assert_refused(desk, row, NoName, name="b")

    def test_no_row_ahead_of_no_name(self):
        desk = desk_of(*START)
        for row in ("drop b b", "send b ash Birch", "do b amy@ash nod - open", "why b ash ash"):
            self.assert_refused(desk, row, NoRow, number=0)

    def test_no_houses(self):
        desk = desk_of(*START)
        self.assert_refused(desk, "world b amy@ash 1 ash birch ash", NoHouses, number=2)
        self.assert_refused(desk, "world hall amy@ash 1 ash ash", NoHouses, number=1)
        self.assert_refused(desk, "world b amy@ash 1 a b c d e f g", NoHouses, number=None)
        # Ahead of the begin that is none.
        self.assert_refused(desk, "world b amy@elm 1 ash ash", NoHouses, number=1)

    def test_no_house(self):
        desk = desk_of(*START)
        for row in ("send hall zz birch", "send hall birch zz", "send hall zz yy", "fetch hall zz ash", "fetch hall ash zz",
                    "fetch hall zz yy", "part hall zz", "meet hall zz", "now hall zz", "ranks hall zz",
                    "seat hall zz amy@ash", "ends hall zz", "missing hall zz", "soft hall zz", "why hall zz ash:0",
                    "show hall zz ash:0", "why hall zz ash:99", "do hall amy@zz door - open",
                    "do hall amy@zz door - ajar", "do hall abcdefghi@zz say - oh"):
            self.assert_refused(desk, row, NoHouse, house="zz")
        self.assert_refused(desk, "do hall amy@abcdefghi say - oh", NoHouse, house="abcdefghi")
        desk.say("part hall ash")
        # Also where one is parted.
        self.assert_refused(desk, "send hall ash zz", NoHouse, house="zz")

    def test_no_deed(self):
        desk = desk_of(*START)
        rows = [("world b amy@birch 1 ash birch", "house"), ("world hall bob@birch 1 ash birch", "house"),
                ("do hall abcdefghi@ash say - oh", "who"), ("do hall amy@ash door - ajar", "body"),
                ("do hall amy@ash seat amy@abcdefghi called", "about"), ("do hall amy@ash seat amy@ash standing", "body"),
                ("do hall amy@ash say - " + "a" * 81, "body"), ("do hall amy@ash say - a\tb", "body"),
                ("do hall amy@ash strike - ash:100000", "body"), ("do hall amy@ash strike - abcdefghi:1", "body"),
                ("do hall amy@ash ranks - amy@ash=101;", "body"), ("do hall amy@ash ranks - ;nod=5", "body"),
                ("do hall amy@ash ranks - bob@birch=5,amy@ash=5;", "body"), ("do hall amy@ash move - 3", "body"),
                ("do hall amy@ash begin - 3", "body"), ("do hall amy@ash begin - 1:ash:100000", "body")]
        for row, part in rows:
            self.assert_refused(desk, row, NoDeed, part=part)

    def test_full_ahead_of_barred_behind_no_deed(self):
        desk = desk_of(*START)
        for number in range(297):
            desk.say("do hall amy@ash say - oh")
        self.assertEqual(desk.say("why hall ash ash:299"), "let")
        self.assert_refused(desk, "do hall amy@ash say - oh", Full)
        self.assert_refused(desk, "do hall zoe@ash say - oh", Full)
        self.assert_refused(desk, "do hall amy@ash say - " + "a" * 81, NoDeed, part="body")

    def test_barred(self):
        desk = desk_of(*START)
        for row, where, rule in (("do hall zoe@ash say - oh", "leave", "seat"), ("do hall bob@birch door - open", "leave", "rank"),
                                 ("do hall amy@ash strike - birch:0", "past", "strike"),
                                 ("do hall amy@ash begin - 1", "here", "begun"),
                                 ("do hall amy@ash begin - 2:ash:5", "here", "begun")):
            self.assert_refused(desk, row, Barred, where=where, rule=rule)

    def test_deeds_that_arent_known(self):
        desk = desk_of(*START)
        for word in ("why", "show"):
            for text, name in (("ash:3", ("ash", 3)), ("zz:0", ("zz", 0)), ("ash:100000", ("ash", 100000)),
                               ("abcdefghi:0", ("abcdefghi", 0))):
                self.assert_refused(desk, f"{word} hall ash {text}", NoName, name=name)
            self.assert_refused(desk, word + " hall elm ash:1", NoName, name=("ash", 1))

    def test_a_twin_to_be_shown(self):
        desk = desk_of(*START)
        for words in ("a", "b"):
            one = (("elm", 9), "say", "dan@elm", "", words, (("ash", 0),), (("ash", 0),))
            desk.worlds["hall"].weave([("lie", "ash", one)])
        self.assert_refused(desk, "show hall ash elm:9", Twin, name=("elm", 9))
        self.assertEqual(desk.say("why hall ash elm:9"), "twin")

    def test_too_many_behind_all_else(self):
        desk = desk_of(*["world " + letter + " amy@ash 1 ash" for letter in "abcdefghij"])
        self.assert_refused(desk, "world k amy@ash 1 ash birch", TooMany, many=11)
        self.assert_refused(desk, "world k amy@ash 1 ash ash", NoHouses, number=1)
        self.assert_refused(desk, "world k amy@elm 1 ash", NoDeed, part="house")
        self.assert_refused(desk, "world k amy@ash 3 ash", NoRow, number=0)


if __name__ == "__main__":
    unittest.main()

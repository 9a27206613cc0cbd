"""[7], and [3] (j): deeds written as rows, and read."""

import itertools
import unittest

from branchedhall.errors import NoDeed, NoText
from branchedhall.texts import read, read_all, show, show_all
from tests.samples import ALL_WANTED, BEGIN, DOOR, EDGE_DEEDS, MOVE, ODD_THINGS, ONE_OF_EACH, RANKS, SAY, SEAT, SIX
from tests.samples import STRIKE, TWENTY, WHO, altered

BEGIN_ROW = "ash:0 begin amy@ash - 1 - -"
SEAT_ROW = "ash:5 seat amy@ash bob@birch called ash:0 ash:0,birch:3"
RANKS_ROW = "ash:5 ranks amy@ash - amy@ash=100,bob@birch=50,cyd@ash=0;call=0,say=100 ash:0 ash:0,birch:3"
DOOR_ROW = "ash:5 door amy@ash - open ash:0 ash:0,birch:3"
SAY_ROW = "ash:5 say amy@ash - ! ash:0 ash:0,birch:3 good day"
STRIKE_ROW = "ash:5 strike amy@ash - birch:3 ash:0 ash:0,birch:3"
MOVE_ROW = "ash:5 move amy@ash - 2 ash:0 ash:0,birch:3"
ROWS = (BEGIN_ROW, SEAT_ROW, RANKS_ROW, DOOR_ROW, SAY_ROW, STRIKE_ROW, MOVE_ROW)
SAY_AHEAD = "ash:5 say amy@ash - ! ash:0 ash:0,birch:3 "

NO_NUMBERS = ("", "00", "01", "007", "-1", "+1", "1_0", "1.0", "1 ", "a", "0x1", "\u0661", "\u00b2", "-0", "1\n", "-")
NO_LETTERS = ("", "A", "Ash", "as1h", "a-h", "-", "a_b", "\u00e4", "1", "a\n", "a\t")
NO_NAMES = tuple("ash:" + number for number in NO_NUMBERS if number != "1 ") + tuple(
    letters + ":0" for letters in NO_LETTERS) + (
    "ash", "ash:0:0", ":", "0:ash", "ash=0", "ash;0", "ash::0", "(ash,0)", "ash:0;", "ash:0.")
NO_PERSONS = tuple(letters + "@ash" for letters in NO_LETTERS) + tuple("amy@" + letters for letters in NO_LETTERS) + (
    "amy", "@", "amy@@ash", "amy@ash@ash", "@amy@ash", "amy@ash@", "ash:0", "amy@ash,", "amy@ash=1")


def with_word(row, number, word):
    """A row with one of its first seven words changed for another."""
    words = row.split(" ", 7)
    words[number] = word
    return " ".join(words)


class Texts(unittest.TestCase):
    def assert_written(self, deed, row):
        self.assertEqual(show(deed), row)
        self.assertEqual(show(deed=deed), row)
        self.assertEqual(read(row), deed)
        self.assertEqual(read(text=row), deed)

    def assert_no_text(self, thing, part):
        with self.assertRaises(NoText) as caught:
            read(thing)
        self.assertEqual(caught.exception.part, part)
        with self.assertRaises(NoText) as caught:
            read(text=thing)
        self.assertEqual(caught.exception.part, part)

    def assert_no_deed(self, row, part):
        with self.assertRaises(NoDeed) as caught:
            read(row)
        self.assertEqual(caught.exception.part, part)

    def assert_no_words(self, row, number, words):
        for word in words:
            self.assert_no_text(with_word(row, number, word), number)


class Written(Texts):
    def test_a_row_of_each_kind(self):
        for deed, row in zip(ONE_OF_EACH, ROWS):
            self.assert_written(deed, row)

    def test_begins(self):
        self.assert_written(altered(BEGIN, body=(2, None)), "ash:0 begin amy@ash - 2 - -")
        self.assert_written(altered(BEGIN, body=(1, ("birch", 0))), "ash:0 begin amy@ash - 1:birch:0 - -")
        self.assert_written(altered(BEGIN, body=(2, ("z", 99999))), "ash:0 begin amy@ash - 2:z:99999 - -")

    def test_seats(self):
        self.assert_written(altered(SEAT, body="in", about=WHO), SEAT_ROW.replace("bob@birch called", "amy@ash in"))
        self.assert_written(altered(SEAT, body="barred"), SEAT_ROW.replace("called", "barred"))

    def test_ranks_with_nothing_on_a_side(self):
        ahead, behind = "ash:5 ranks amy@ash - ", " ash:0 ash:0,birch:3"
        self.assert_written(altered(RANKS, body=((), ())), ahead + ";" + behind)
        self.assert_written(altered(RANKS, body=((("a@b", 7),), ())), ahead + "a@b=7;" + behind)
        self.assert_written(altered(RANKS, body=((), (("say", 7),))), ahead + ";say=7" + behind)
        self.assert_written(altered(RANKS, body=((("a@b", 0),), (("say", 0),))), ahead + "a@b=0;say=0" + behind)

    def test_as_many_ranks_as_may_be(self):
        row = show(altered(RANKS, body=(TWENTY, ALL_WANTED)))
        self.assertIn(" a@ash=1,b@ash=1,c@ash=1,", row)
        self.assertIn(",t@ash=1;bar=7,call=7,door=7,move=7,out=7,ranks=7,say=7,strike=7 ", row)

    def test_names(self):
        names = "ash:0,ash:1,ash:10,birch:0,birch:99999,z:7"
        self.assert_written(altered(DOOR, after=SIX, leave=SIX[:1]), "ash:5 door amy@ash - open " + names + " ash:0")
        self.assert_written(altered(DOOR, name=("ash", 99999)), DOOR_ROW.replace("ash:5", "ash:99999"))

    def test_says(self):
        for body in ("", " ", "  ", "a", " a", "a ", "  a  b  ", "!", "-", "! - -", "a:0 say b@a - !", "~" * 80, " " * 80,
                     "%s {0} \\n '\" ,;:=@"):
            self.assert_written(altered(SAY, body=body), SAY_AHEAD + body)

    def test_edges_are_read_back(self):
        for deed in ONE_OF_EACH + EDGE_DEEDS:
            row = show(deed)
            self.assert_written(deed, row)
            self.assertNotIn("\n", row)

    def test_no_two_are_written_alike(self):
        deeds = ONE_OF_EACH + EDGE_DEEDS
        self.assertEqual(len({show(deed) for deed in deeds}), len(set(deeds)))

    def test_what_is_read_is_written_back(self):
        for row in ROWS + (SAY_AHEAD, SAY_AHEAD + " "):
            self.assertEqual(show(read(row)), row)

    def test_kinds_of_what_is_read(self):
        deed = read(RANKS_ROW)
        self.assertIsInstance(deed, tuple)
        self.assertIsInstance(deed[4], tuple)
        for side in deed[4]:
            self.assertIsInstance(side, tuple)
            for row in side:
                self.assertIsInstance(row, tuple)
        self.assertIs(type(read(MOVE_ROW)[4]), int)
        self.assertIs(read(BEGIN_ROW)[4][1], None)
        self.assertEqual(read(BEGIN_ROW)[5:], ((), ()))
        self.assertEqual(read(BEGIN_ROW)[3], "")


class WordsThatCannotStand(Texts):
    def test_no_text(self):
        for thing in ODD_THINGS + (0, (), BEGIN, list(ROWS), BEGIN_ROW.encode(), (BEGIN_ROW,)):
            self.assert_no_text(thing, -1)

    def test_names(self):
        for row in ROWS:
            self.assert_no_words(row, 0, NO_NAMES + ("-", "ash:0,ash:1"))

    def test_kinds(self):
        for row in ROWS:
            self.assert_no_words(row, 1, ("", "-", "beg", "begins", "Begin", "SAY", "in", "out", "bar", "call", "say\t"))

    def test_people(self):
        for row in ROWS:
            self.assert_no_words(row, 2, NO_PERSONS + ("-",))

    def test_abouts(self):
        for row in ROWS:
            if row == SEAT_ROW:
                self.assert_no_words(row, 3, NO_PERSONS + ("-",))
            else:
                self.assert_no_words(row, 3, ("", "--", "amy@ash", "bob@birch", "!", "ash:0", "-,"))

    def test_begin_bodies(self):
        self.assert_no_words(BEGIN_ROW, 4, [number for number in NO_NUMBERS if " " not in number])
        self.assert_no_words(BEGIN_ROW, 4, ["1:" + name for name in NO_NAMES])
        self.assert_no_words(BEGIN_ROW, 4, ("1:", ":", ":ash:0", "1:-", "ash:0", "1:2", "01:ash:0", "1:ash:00", "!",
                                            "1,ash:0", "1:None", "x:ash:0", "1:ash:0:0", "1:ash:0,ash:1", "1::ash:0"))

    def test_seat_and_door_bodies(self):
        for row in (SEAT_ROW, DOOR_ROW):
            self.assert_no_words(row, 4, NO_LETTERS + ("!", "1", "amy@ash", "ash:0", "In", "in,out", "open;"))

    def test_ranks_bodies(self):
        self.assert_no_words(RANKS_ROW, 4, ("", "-", "!", ";;", "a@b=1", "say=1", "a@b=1;;say=1", ",;", ";,", "=;", ";=",
                                            "a@b=1,;", ",a@b=1;", ";say=1,", ";,say=1", "a@b=1,,b@b=1;", "a@b;", ";say",
                                            "say=1;", ";a@b=1", "a@b=1=1;", ";say=1=1", "a@b:1;", "a@b=;", ";say=",
                                            "=1;", ";=1", "-;-", ";-", "-;", "a@b=1;say=1;", "a@b=1,b@b=x;", ";say=1,x=y"))
        self.assert_no_words(RANKS_ROW, 4, [person + "=1;" for person in NO_PERSONS])
        self.assert_no_words(RANKS_ROW, 4, [";" + word + "=1" for word in NO_LETTERS])
        for number in NO_NUMBERS:
            if " " not in number:
                self.assert_no_words(RANKS_ROW, 4, ("a@b=" + number + ";", ";say=" + number, "a@b=1,b@b=" + number + ";"))

    def test_say_bodies(self):
        self.assert_no_words(SAY_ROW, 4, ("", "-", "!!", "good", "a", "1", "!a", "amy@ash"))

    def test_strike_bodies(self):
        self.assert_no_words(STRIKE_ROW, 4, NO_NAMES + ("-", "!", "1", "ash:0,ash:1"))

    def test_move_bodies(self):
        self.assert_no_words(MOVE_ROW, 4, [number for number in NO_NUMBERS if " " not in number])
        self.assert_no_words(MOVE_ROW, 4, ("-", "!", "1:ash:0", "ash:0", "1,2", "one"))

    def test_after_and_leave(self):
        for row in ROWS:
            for number in (5, 6):
                self.assert_no_words(row, number, NO_NAMES)
                self.assert_no_words(row, number, ["ash:0," + name for name in NO_NAMES])
                self.assert_no_words(row, number, ["", "--", "-,ash:0", "ash:0,-", ",", "ash:0,", ",ash:0", "!", "()"])

    def test_words_without_signs(self):
        for row in ROWS:
            words = row.split(" ")
            for number in range(7):
                self.assert_no_text(" ".join(words[:number] + [""] + words[number:]), number)
        self.assert_no_text("", 0)
        self.assert_no_text(" ", 0)
        self.assert_no_text("      ", 0)
        self.assert_no_text("ash:0 ", 1)

    def test_other_gaps(self):
        for row in ROWS:
            self.assert_no_text(row.replace(" ", "\t"), 0)
            self.assert_no_text(row.replace(" ", "\n", 1), 0)
            self.assert_no_text("\n" + row, 0)
        self.assert_no_text(BEGIN_ROW + "\n", 6)
        self.assert_no_text(BEGIN_ROW + "\t", 6)
        self.assert_no_text(BEGIN_ROW + "\n" + BEGIN_ROW, 6)

    def test_the_first_of_several(self):
        for row in ROWS:
            for many in range(1, 8):
                for numbers in itertools.combinations(range(7), many):
                    spoiled = row
                    for number in numbers:
                        spoiled = with_word(spoiled, number, "?")
                    self.assert_no_text(spoiled, numbers[0])

    def test_by_signs_goes_ahead_of_no_deed(self):
        for row in ROWS[1:]:
            spoiled = with_word(row, 0, "abcdefghi:100000")
            self.assert_no_text(with_word(spoiled, 6, "?"), 6)
            self.assert_no_text(" ".join(spoiled.split(" ")[:6]), 7)


class FewerAndMoreWords(Texts):
    def test_fewer(self):
        for row in ROWS:
            words = row.split(" ")
            for many in range(1, 7):
                self.assert_no_text(" ".join(words[:many]), 7)

    def test_fewer_with_one_that_cannot_stand(self):
        self.assert_no_text("x", 0)
        self.assert_no_text("ash:0 x", 1)
        self.assert_no_text("ash:0 begin x", 2)
        self.assert_no_text("ash:0 begin amy@ash x", 3)
        self.assert_no_text("ash:0 begin amy@ash - x", 4)
        self.assert_no_text("ash:0 begin amy@ash - 1 x", 5)
        self.assert_no_text("ash:5 say amy@ash - x", 4)
        self.assert_no_text("ash:5 say", 7)

    def test_more(self):
        for row in ROWS:
            if row != SAY_ROW:
                for more in (" ", " -", " a", " a b", "  ", " ?", " " + row):
                    self.assert_no_text(row + more, 7)
                self.assert_no_text(with_word(row, 5, "?") + " -", 5)

    def test_more_of_what_is_no_deed(self):
        self.assert_no_text("abcdefghi:0 begin amy@ash - 3 - - -", 7)

    def test_a_say_of_seven_words_alone(self):
        self.assert_no_text(SAY_AHEAD[:-1], 7)
        self.assertEqual(read(SAY_AHEAD), altered(SAY, body=""))


class NoDeeds(Texts):
    def test_each_part(self):
        for row in ROWS:
            for word in ("ash:100000", "ash:" + "9" * 60, "abcdefghi:0", "a" * 80 + ":0"):
                self.assert_no_deed(with_word(row, 0, word), "name")
            for word in ("abcdefghi@ash", "amy@abcdefghi", "a" * 40 + "@" + "b" * 40):
                self.assert_no_deed(with_word(row, 2, word), "who")
            self.assert_no_deed(with_word(row, 2, "amy@birch"), "house")
            self.assert_no_deed(with_word(row, 0, "birch:9"), "house")
        self.assert_no_deed(with_word(SEAT_ROW, 3, "bob@abcdefghi"), "about")
        self.assert_no_deed(with_word(SEAT_ROW, 3, "abcdefghi@birch"), "about")

    def test_bodies(self):
        wrong = (
            (BEGIN_ROW, ("0", "3", "12", "9" * 60, "1:abcdefghi:0", "1:ash:100000", "3:ash:0")),
            (SEAT_ROW, ("up", "open", "call", "abcdefghijkl")),
            (RANKS_ROW, ("a@b=101;", ";say=101", ";in=1", ";abcdefghi=1", "a@abcdefghi=1;", "b@b=1,a@b=1;", "a@b=1,a@b=1;",
                         "a@b=1,a@b=2;", ";say=1,call=1", ";say=1,say=2", "a@b=" + "1" * 60 + ";",
                         ",".join(letter + "@b=1" for letter in "abcdefghijklmnopqrstu") + ";")),
            (DOOR_ROW, ("shut", "in", "opened")),
            (STRIKE_ROW, ("abcdefghi:0", "ash:100000")),
            (MOVE_ROW, ("0", "3", "100")),
        )
        for row, words in wrong:
            for word in words:
                self.assert_no_deed(with_word(row, 4, word), "body")

    def test_say_bodies(self):
        for body in ("a" * 81, " " * 81, "a\tb", "\t", "a\n", "\n", "a\nb c"):
            self.assert_no_deed(SAY_AHEAD + body, "body")

    def test_after_and_leave(self):
        wrong = ("ash:1,ash:0", "ash:1,ash:1", "ash:10,ash:9", "ash:5", "ash:0,ash:5", "abcdefghi:0", "ash:100000", "-",
                 "ash:0,ash:1,ash:2,ash:3,ash:4,ash:6,ash:7")
        for row in ROWS[1:]:
            for word in wrong:
                self.assert_no_deed(with_word(row, 5, word), "after")
                self.assert_no_deed(with_word(row, 6, word), "leave")
        self.assert_no_deed(with_word(BEGIN_ROW, 5, "ash:1"), "after")
        self.assert_no_deed(with_word(BEGIN_ROW, 6, "ash:1"), "leave")

    def test_however_many_figures(self):
        for figures in ("1" * 61, "9" * 3900):
            self.assert_no_deed(with_word(BEGIN_ROW, 0, "ash:" + figures), "name")
            self.assert_no_deed(with_word(MOVE_ROW, 4, figures), "body")
            self.assert_no_deed(with_word(DOOR_ROW, 6, "ash:" + figures), "leave")
            self.assert_no_text(with_word(BEGIN_ROW, 0, "ash:0" + figures), 0)

    def test_the_first_wrong_part(self):
        self.assert_no_deed("abcdefghi:0 say abcdefghi@ash - ! - - \t", "name")
        self.assert_no_deed("birch:0 say abcdefghi@ash - ! - - \t", "who")
        self.assert_no_deed("birch:0 say amy@ash - ! - - \t", "body")
        self.assert_no_deed("birch:0 say amy@ash - ! - - ", "after")
        self.assert_no_deed("birch:0 say amy@ash - ! ash:0 - ", "leave")
        self.assert_no_deed("birch:0 say amy@ash - ! ash:0 ash:0 ", "house")


class SeveralRows(Texts):
    def assert_all_refused(self, text, refusal, part):
        for ask in (lambda: read_all(text), lambda: read_all(text=text)):
            with self.assertRaises(refusal) as caught:
                ask()
            self.assertEqual(caught.exception.part, part)

    def test_none(self):
        self.assertEqual(show_all([]), "")
        self.assertEqual(read_all(""), [])

    def test_one(self):
        for deed, row in zip(ONE_OF_EACH, ROWS):
            self.assertEqual(show_all([deed]), row)
            self.assertEqual(read_all(row), [deed])

    def test_several(self):
        self.assertEqual(show_all(list(ONE_OF_EACH)), "\n".join(ROWS))
        self.assertEqual(show_all(deeds=list(ONE_OF_EACH)), "\n".join(ROWS))
        self.assertEqual(read_all("\n".join(ROWS)), list(ONE_OF_EACH))
        self.assertEqual(read_all(text="\n".join(ROWS)), list(ONE_OF_EACH))
        self.assertEqual(show_all(list(ONE_OF_EACH[::-1])), "\n".join(ROWS[::-1]))

    def test_read_back(self):
        deeds = list(ONE_OF_EACH + EDGE_DEEDS)
        self.assertEqual(read_all(show_all(deeds)), deeds)
        for start in range(len(deeds) - 3):
            self.assertEqual(read_all(show_all(deeds[start:start + 3])), deeds[start:start + 3])

    def test_one_deed_twice(self):
        self.assertEqual(read_all(SAY_ROW + "\n" + SAY_ROW), [SAY, SAY])
        self.assertEqual(show_all([SAY, BEGIN, SAY]), "\n".join((SAY_ROW, BEGIN_ROW, SAY_ROW)))

    def test_says_without_signs(self):
        quiet = altered(SAY, body="")
        self.assertEqual(read_all(SAY_AHEAD + "\n" + SAY_AHEAD), [quiet, quiet])

    def test_empty_rows(self):
        for text in ("\n", "\n\n", BEGIN_ROW + "\n", "\n" + BEGIN_ROW, BEGIN_ROW + "\n\n" + MOVE_ROW):
            self.assert_all_refused(text, NoText, 0)

    def test_the_first_row_that_is_refused(self):
        no_text, fewer, no_deed = with_word(DOOR_ROW, 5, "?"), "ash:0 begin", with_word(MOVE_ROW, 4, "3")
        self.assert_all_refused("\n".join((BEGIN_ROW, no_text, fewer)), NoText, 5)
        self.assert_all_refused("\n".join((BEGIN_ROW, fewer, no_text)), NoText, 7)
        self.assert_all_refused("\n".join((no_deed, no_text)), NoDeed, "body")
        self.assert_all_refused("\n".join((no_text, no_deed)), NoText, 5)
        self.assert_all_refused("\n".join((no_deed, BEGIN_ROW)), NoDeed, "body")

    def test_no_text(self):
        for thing in ODD_THINGS + (0, (), list(ROWS), ROWS, BEGIN_ROW.encode(), BEGIN):
            self.assert_all_refused(thing, NoText, -1)

    def test_lists_are_the_askers_own(self):
        text = "\n".join(ROWS)
        told = read_all(text)
        self.assertIs(type(told), list)
        told.clear()
        self.assertEqual(read_all(text), list(ONE_OF_EACH))
        empty = read_all("")
        empty.append(BEGIN)
        self.assertEqual(read_all(""), [])

    def test_what_is_handed_in_stays(self):
        deeds = list(ONE_OF_EACH)
        text = show_all(deeds)
        self.assertEqual(deeds, list(ONE_OF_EACH))
        deeds.reverse()
        self.assertEqual(text, "\n".join(ROWS))
        self.assertEqual(show_all(list(ONE_OF_EACH)), text)


if __name__ == "__main__":
    unittest.main()

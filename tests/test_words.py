"""[4]: words, people, names, ranks, and a person's house."""

import unittest

from branchedhall.words import house_of, is_name, is_person, is_rank, is_word
from tests.samples import ODD_THINGS

LETTERS = "abcdefghijklmnopqrstuvwxyz"
# Every sign but the small letters, the at-sign too, and some that look like letters or figures.
OTHER_SIGNS = [chr(code) for code in range(128) if chr(code) not in LETTERS]
OTHER_SIGNS += ["\u00e4", "\u00df", "\u0430", "\uff41", "\u00aa", "\u00b2", "\u0661", "\u2028"]

WORDS = ["abcdefgh"[:length] for length in range(1, 9)] + list(LETTERS) + ["zzzzzzzz", "open", "in"]
NO_WORDS = ["", "abcdefghi", "a" * 9, "a" * 80, "Ab", "aB", "a b", " a", "a ", "a\n", "a@b", "-"]


class TellsOf(unittest.TestCase):
    def tells(self, tell, yes, no):
        for thing in yes:
            self.assertIs(tell(thing), True, thing)
            self.assertIs(tell(thing=thing), True, thing)
            self.assertIs(tell(thing), True, thing)
        for thing in no:
            self.assertIs(tell(thing), False)
            self.assertIs(tell(thing=thing), False)


class Words(TellsOf):
    def test_lengths_and_letters(self):
        self.tells(is_word, WORDS, NO_WORDS)

    def test_other_signs(self):
        spoiled = OTHER_SIGNS + [sign + "a" for sign in OTHER_SIGNS] + ["a" + sign for sign in OTHER_SIGNS]
        self.tells(is_word, [], spoiled + ["ab" + sign + "cd" for sign in OTHER_SIGNS])

    def test_other_kinds(self):
        self.tells(is_word, [], ODD_THINGS + (0, 1, (), ("a", "b"), ["a", "b"], "a@b", ("a", 0)))


class People(TellsOf):
    def test_words_on_both_sides(self):
        self.tells(is_person, [word + "@" + house for word in WORDS for house in WORDS], [])

    def test_one_side_is_no_word(self):
        self.tells(is_person, [], [word + "@ash" for word in NO_WORDS] + ["amy@" + house for house in NO_WORDS])

    def test_at_signs(self):
        self.tells(is_person, ["a@b"], ["ab", "a", "", "@", "@@", "a@", "@a", "a@@b", "@a@b", "a@b@", "a@b@c", "a@b@c@d"])

    def test_other_signs(self):
        spoiled = ["a" + sign + "@b" for sign in OTHER_SIGNS] + ["a@b" + sign for sign in OTHER_SIGNS]
        self.tells(is_person, [], spoiled + ["a" + sign + "b" for sign in OTHER_SIGNS if sign != "@"])

    def test_other_kinds(self):
        self.tells(is_person, [], ODD_THINGS + ((), ("amy", "ash"), ["amy@ash"], ("amy@ash",), ("ash", 0), 0, 1))


class Houses(unittest.TestCase):
    def test_house(self):
        for person, house in (("amy@ash", "ash"), ("a@b", "b"), ("b@a", "a"), ("ash@birch", "birch"),
                              ("same@same", "same"), ("abcdefgh@hgfedcba", "hgfedcba")):
            self.assertEqual(house_of(person), house)
            self.assertEqual(house_of(person=person), house)


class Names(TellsOf):
    def test_numbers(self):
        self.tells(is_name, [("ash", number) for number in (0, 1, 9, 10, 100, 99998, 99999)],
                   [("ash", number) for number in (-1, -99999, 100000, 100001, 10 ** 59)])

    def test_numbers_of_other_kinds(self):
        self.tells(is_name, [], [("ash", thing) for thing in ODD_THINGS])
        self.tells(is_name, [], [("ash", thing) for thing in (True, False, None, "0", "", 0.0, b"0", [0], (0,))])

    def test_houses(self):
        self.tells(is_name, [(house, 0) for house in WORDS], [(house, 0) for house in NO_WORDS])
        self.tells(is_name, [], [(thing, 0) for thing in ODD_THINGS + (0, ("ash",), "amy@ash")])

    def test_shapes(self):
        self.tells(is_name, [], [["ash", 0], ("ash",), (), ("ash", 0, 0), (0, "ash"), "ash:0", (("ash", 0),), "ab",
                                 {"ash": 0}, ("ash", 0, None)])

    def test_other_kinds(self):
        self.tells(is_name, [], ODD_THINGS + (0, 1, (), "ash", "amy@ash"))


class Ranks(TellsOf):
    def test_numbers(self):
        self.tells(is_rank, range(101), [-1, -100, 101, 102, 1000, 99999, 10 ** 59, -10 ** 59])

    def test_truths_are_no_numbers(self):
        self.tells(is_rank, [0, 1], [True, False])

    def test_other_kinds(self):
        self.tells(is_rank, [], ODD_THINGS + ((), "0", "50", "", b"5", [5], (5,), 50.0, "ash", ("ash", 0)))


if __name__ == "__main__":
    unittest.main()

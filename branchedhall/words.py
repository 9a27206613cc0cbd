"""Words, people, names and ranks, told of anything [4]."""

LONGEST_WORD = 8
GREATEST_NUMBER = 99999
GREATEST_RANK = 100


def is_whole(thing):
    """Whether a thing is a whole number: Python counts True and False among the ints, the document doesn't."""
    return isinstance(thing, int) and not isinstance(thing, bool)


def is_letters(thing):
    """Whether a thing is a text of one or more small letters, however many."""
    return isinstance(thing, str) and thing != "" and all(["a" <= sign <= "z" for sign in thing])


def is_word(thing):
    """Whether a thing is a word; a house is one, too."""
    return is_letters(thing) and len(thing) <= LONGEST_WORD


def is_person(thing):
    """Whether a thing is a person: a word, an at-sign, a house."""
    if not isinstance(thing, str):
        return False
    sides = thing.split("@")
    return len(sides) == 2 and is_word(sides[0]) and is_word(sides[1])


def is_name(thing):
    """Whether a thing is a name of a deed: a tuple of a house and a number."""
    if not isinstance(thing, tuple) or len(thing) != 2:
        return False
    return is_word(thing[0]) and is_whole(thing[1]) and 0 <= thing[1] <= GREATEST_NUMBER


def is_rank(thing):
    """Whether a thing is a rank."""
    return is_whole(thing) and 0 <= thing <= GREATEST_RANK


def house_of(person):
    """The house of a person."""
    return person.split("@")[1]

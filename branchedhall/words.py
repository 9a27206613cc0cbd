"""Words, people, names and ranks, told of anything [4]."""

LONGEST_WORD = 8
GREATEST_NUMBER = 99999
GREATEST_RANK = 100


def is_whole(thing):
    """Whether a thing is a whole number: Python counts True and False among the ints, the document doesn't."""
    return isinstance(thing, int) and not isinstance(thing, bool)


def is_letters(thing):
    """Whether a thing is a text of one or more small letters, however many."""
    return isinstance(thing, str) and thing.isascii() and thing.isalpha() and thing.islower()


def is_word(thing):
    """Whether a thing is a word; a house is one, too."""
    # What is_letters asks stands here once more: words are looked at so often that a further call is felt.
    if not isinstance(thing, str) or len(thing) > LONGEST_WORD:
        return False
    return thing.isascii() and thing.isalpha() and thing.islower()


def is_person(thing):
    """Whether a thing is a person: a word, an at-sign, a house."""
    if not isinstance(thing, str):
        return False
    # Without an at-sign the house has no letters, and with a second one it has more than letters.
    word, at, house = thing.partition("@")
    return is_word(word) and is_word(house)


def is_name(thing):
    """Whether a thing is a name of a deed: a tuple of a house and a number."""
    if not isinstance(thing, tuple) or len(thing) != 2:
        return False
    house, number = thing
    if not isinstance(number, int) or isinstance(number, bool) or not 0 <= number <= GREATEST_NUMBER:
        return False
    return is_word(house)


def is_rank(thing):
    """Whether a thing is a rank."""
    return is_whole(thing) and 0 <= thing <= GREATEST_RANK


def house_of(person):
    """The house of a person."""
    return person.split("@")[1]

"""Deeds written as rows, and read [7].

A reader of a word tells what the word means, or None where it can't stand there by its signs;
whether what it means is a deed's part is asked at last, of the whole deed.
"""

from branchedhall.deeds import KINDS, look_at_deed
from branchedhall.errors import NoText
from branchedhall.words import is_letters

FIGURES = "0123456789"
ROW_WORDS = 7
BODY_PLACE = 4
NOTHING = "-"
SAID_BEHIND = "!"


def show_name(name):
    """A name as it is written."""
    return f"{name[0]}:{name[1]}"


def show_names(names):
    """Names as they are written, also none of them."""
    return ",".join([show_name(name) for name in names]) or NOTHING


def show_begin(body):
    """The body of a begin as it is written."""
    rules, elder = body
    return f"{rules}" if elder is None else f"{rules}:{show_name(elder)}"


def show_ranking(rows):
    """What is ranked, with its ranks, as it is written."""
    return ",".join([f"{ranked}={rank}" for ranked, rank in rows])


def show_ranks(body):
    """The body of a ranks deed as it is written."""
    return f"{show_ranking(body[0])};{show_ranking(body[1])}"


def show_body(kind, body):
    """A body as it stands in its place, where that of a say has but a mark."""
    if kind == "begin":
        return show_begin(body)
    if kind == "ranks":
        return show_ranks(body)
    if kind == "say":
        return SAID_BEHIND
    if kind == "strike":
        return show_name(body)
    return str(body)


def show(deed):
    """A deed as one row."""
    name, kind, who, about, body, after, leave = deed
    words = [show_name(name), kind, who, about or NOTHING, show_body(kind, body), show_names(after), show_names(leave)]
    if kind == "say":
        words.append(body)
    return " ".join(words)


def show_all(deeds):
    """Deeds as rows parted by line feeds."""
    return "\n".join([show(deed) for deed in deeds])


def read_number(word):
    """A number, however many figures it has."""
    if word == "" or not all([sign in FIGURES for sign in word]):
        return None
    if word[0] == "0" and word != "0":
        return None
    # Python refuses to read thousands of figures; sixty of them are beyond all limits of a deed, too.
    return int(word[:60])


def read_word(word):
    """A word, however many letters it has."""
    return word if is_letters(word) else None


def read_person(word):
    """A person, however many letters there are."""
    sides = word.split("@")
    if len(sides) != 2 or not is_letters(sides[0]) or not is_letters(sides[1]):
        return None
    return word


def read_pair(word, sign, read_left):
    """A tuple of what stands to the left of a sign and the number to its right."""
    sides = word.split(sign)
    if len(sides) != 2:
        return None
    left = read_left(sides[0])
    number = read_number(sides[1])
    return None if left is None or number is None else (left, number)


def read_name(word):
    """A name, however great."""
    return read_pair(word, ":", read_word)


def all_or_none(things):
    """A tuple of things that were read, or None where one of them wasn't."""
    return None if None in things else tuple(things)


def read_names(word):
    """Names, or none of them, in whatever order they stand."""
    if word == NOTHING:
        return ()
    return all_or_none([read_name(part) for part in word.split(",")])


def read_begin(word):
    """The body of a begin."""
    rules, colon, elder = word.partition(":")
    if colon == "":
        number = read_number(rules)
        return None if number is None else (number, None)
    return all_or_none([read_number(rules), read_name(elder)])


def read_ranking(text, read_ranked):
    """What is ranked, with its ranks; nothing is written where nothing is ranked."""
    if text == "":
        return ()
    return all_or_none([read_pair(part, "=", read_ranked) for part in text.split(",")])


def read_ranks(word):
    """The body of a ranks deed."""
    sides = word.split(";")
    if len(sides) != 2:
        return None
    return all_or_none([read_ranking(sides[0], read_person), read_ranking(sides[1], read_word)])


def read_said_behind(word):
    """The mark in the place of a say's body, which is read elsewhere."""
    return word if word == SAID_BEHIND else None


BODY_READERS = {
    "begin": read_begin,
    "seat": read_word,
    "ranks": read_ranks,
    "door": read_word,
    "say": read_said_behind,
    "strike": read_name,
    "move": read_number,
}


def read_kind(word):
    """One of the seven kinds."""
    return word if word in KINDS else None


def read_about(kind, word):
    """What a deed of this kind is about."""
    if kind == "seat":
        return read_person(word)
    return "" if word == NOTHING else None


def read_body(kind, word):
    """The body of a deed of this kind."""
    read_it = BODY_READERS[kind]
    return read_it(word)


def read_part(words, number):
    """The part of a deed that a word of a row is, those ahead of it having been read, or None."""
    word = words[number]
    if number == 0:
        return read_name(word)
    if number == 1:
        return read_kind(word)
    if number == 2:
        return read_person(word)
    if number == 3:
        return read_about(words[1], word)
    if number == BODY_PLACE:
        return read_body(words[1], word)
    return read_names(word)


def read_parts(words):
    """The parts of a deed that the words of a row are, the first seven of them."""
    parts = []
    for number in range(min(len(words), ROW_WORDS)):
        part = read_part(words, number)
        if part is None:
            raise NoText(number)
        parts.append(part)
    return parts


def read(text):
    """The deed that is written as this row; NoText or NoDeed of all else, of anything."""
    if not isinstance(text, str):
        raise NoText(-1)
    # All that follows the seventh word is kept whole: the blanks in what is said part no words.
    words = text.split(" ", ROW_WORDS)
    parts = read_parts(words)
    is_say = words[1:2] == ["say"]
    if len(words) != (ROW_WORDS + 1 if is_say else ROW_WORDS):
        raise NoText(ROW_WORDS)
    if is_say:
        parts[BODY_PLACE] = words[ROW_WORDS]
    deed = tuple(parts)
    look_at_deed(deed)
    return deed


def read_all(text):
    """The deeds that are written as these rows; the first row that is refused, so refused."""
    if not isinstance(text, str):
        raise NoText(-1)
    if text == "":
        return []
    return [read(row) for row in text.split("\n")]

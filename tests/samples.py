"""Deeds and things of other kinds that several tests share."""


class SaysYes:
    """A thing that says it equals everything, and can't be a key."""

    __hash__ = None

    def __eq__(self, other):
        return True


class SaysNothing:
    """A thing that can be neither compared, nor counted, nor shown."""

    def __eq__(self, other):
        raise AssertionError("it was compared")

    __hash__ = None
    __lt__ = __len__ = __iter__ = __str__ = __repr__ = __bool__ = __getitem__ = __eq__


# None of them may stand anywhere in a deed (but None as an elder), nor as a text.
ODD_THINGS = (
    None, True, False, -1, 100000, 10 ** 59, 0.5, b"", b"a", b"a@b", [], ["a"], ["a", 0], ("a",), ((),), {}, {"a": 0},
    {"a"}, frozenset(), object(), int, len, range(2), SaysYes(), SaysNothing(),
)

OWN = ("ash", 5)
WHO = "amy@ash"
ONE = (("ash", 0),)
TWO = (("ash", 0), ("birch", 3))
SIX = (("ash", 0), ("ash", 1), ("ash", 10), ("birch", 0), ("birch", 99999), ("z", 7))
SEVEN = SIX + (("zz", 0),)
PEOPLE = (("amy@ash", 100), ("bob@birch", 50), ("cyd@ash", 0))
WANTED = (("call", 0), ("say", 100))
ALL_WANTED = tuple((word, 7) for word in ("bar", "call", "door", "move", "out", "ranks", "say", "strike"))
TWENTY = tuple((letter + "@ash", 1) for letter in "abcdefghijklmnopqrst")

BEGIN = (("ash", 0), "begin", WHO, "", (1, None), (), ())
SEAT = (OWN, "seat", WHO, "bob@birch", "called", ONE, TWO)
RANKS = (OWN, "ranks", WHO, "", (PEOPLE, WANTED), ONE, TWO)
DOOR = (OWN, "door", WHO, "", "open", ONE, TWO)
SAY = (OWN, "say", WHO, "", "good day", ONE, TWO)
STRIKE = (OWN, "strike", WHO, "", ("birch", 3), ONE, TWO)
MOVE = (OWN, "move", WHO, "", 2, ONE, TWO)
ONE_OF_EACH = (BEGIN, SEAT, RANKS, DOOR, SAY, STRIKE, MOVE)

PLACES = {"name": 0, "kind": 1, "who": 2, "about": 3, "body": 4, "after": 5, "leave": 6}


def altered(deed, **parts):
    """A deed with some of its parts changed for others."""
    changed = list(deed)
    for part, thing in parts.items():
        changed[PLACES[part]] = thing
    return tuple(changed)


# Deeds at the edges that the document names.
EDGE_DEEDS = (
    altered(BEGIN, body=(2, None)),
    altered(BEGIN, body=(1, ("birch", 0))),
    altered(BEGIN, body=(2, ("abcdefgh", 99999))),
    altered(BEGIN, name=("ash", 99999)),
    altered(BEGIN, name=("a", 0), who="abcdefgh@a"),
    altered(BEGIN, name=("abcdefgh", 0), who="a@abcdefgh"),
    altered(BEGIN, body=(1, ("ash", 0))),
    altered(SEAT, body="in", about=WHO),
    altered(SEAT, body="out"),
    altered(SEAT, body="barred"),
    altered(SEAT, about="a@b"),
    altered(SEAT, about="abcdefgh@abcdefgh"),
    altered(RANKS, body=((), ())),
    altered(RANKS, body=(PEOPLE, ())),
    altered(RANKS, body=((), WANTED)),
    altered(RANKS, body=((("a@b", 0),), (("out", 0),))),
    altered(RANKS, body=((("a@b", 100),), (("out", 100),))),
    altered(RANKS, body=(TWENTY, ALL_WANTED)),
    altered(DOOR, body="asked"),
    altered(SAY, body=""),
    altered(SAY, body=" "),
    altered(SAY, body="  two, and two  "),
    altered(SAY, body="!"),
    altered(SAY, body="-"),
    altered(SAY, body=" " * 80),
    altered(SAY, body="~" * 80),
    altered(SAY, body=" !\"#$%&'()*+,-./0123456789:;<=>?@"),
    altered(SAY, body="ABCXYZ[\\]^_`abcxyz{|}~"),
    altered(STRIKE, body=("z", 0)),
    altered(STRIKE, body=("abcdefgh", 99999)),
    altered(STRIKE, body=OWN),
    altered(MOVE, body=1),
    altered(DOOR, after=SIX, leave=SIX),
    altered(DOOR, after=(("ash", 4), ("ash", 6)), leave=(("a", 5), ("ashes", 5))),
    altered(DOOR, after=(("ash", 99999),), leave=(("birch", 5),)),
)

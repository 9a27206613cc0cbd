"""What was struck out, and deeds and halls thinned, for showing [24]."""

from branchedhall.deeds import BODY, KIND, with_body
from branchedhall.words import is_name


def struck_in(web):
    """The names that are struck by deeds that are let in."""
    return sorted({deed[BODY] for deed in web.hall().values() if deed[KIND] == "strike"})


def thinned(deed):
    """A deed without what was said, or without the elder of a begin."""
    if deed[KIND] == "say":
        return with_body(deed, "")
    if deed[KIND] == "begin":
        return with_body(deed, (deed[BODY][0], None))
    return deed


def shown(web, name):
    """The deed by a known name, thinned where it is struck."""
    deed = web.deed(name)
    return thinned(deed) if name in struck_in(web) else deed


def thin_hall(hall, names):
    """The hall with all of some names thinned."""
    thin = {name: True for name in names if is_name(name)}
    return {name: thinned(hall[name]) if name in thin else hall[name] for name in hall}

"""What a book holds behind its deeds, and for what it refuses one."""

from answerskept.claims import breaking_world
from answerskept.deeds import is_deed
from answerskept.errors import Broken, NoDeed, NoEditor, NoFunction, NoNumber, NoPlace, Taken
from answerskept.merging import merged
from answerskept.places import edited, is_edit
from answerskept.whole import whole


class Draft:
    """Sheets, by their editors as they joined, claims, and the Program of both; it never changes."""

    def __init__(self, sheets, claims, outcome):
        self.sheets = sheets
        self.pledges = claims
        self.outcome = outcome


def draft_behind(base, draft, deed):
    """Return the Draft behind one more deed, any value, or raise what it is refused for."""
    if not is_deed(deed):
        raise NoDeed()
    _refuse_names(base, draft, deed)
    _refuse_places(base, draft, deed)
    sheets = _sheets_behind(draft.sheets, deed)
    if deed[0] in ("edit", "drop"):
        edited(base, sheets[deed[1]])
    outcome = merged(base, list(sheets.values()))
    claims = _claims_behind(draft.pledges, deed)
    _refuse_broken(outcome, claims)
    return Draft(sheets, claims, outcome)


def _refuse_names(base, draft, deed):
    word = deed[0]
    if word == "join" and deed[1] in draft.sheets:
        raise Taken(deed[1])
    if word in ("edit", "drop") and deed[1] not in draft.sheets:
        raise NoEditor(deed[1])
    if word == "edit":
        _refuse_function(base, deed[2])
    if word == "claim":
        _refuse_function(base, deed[1])


def _refuse_function(base, name):
    if name not in base.functions():
        raise NoFunction(name)


def _refuse_places(base, draft, deed):
    word = deed[0]
    if word == "edit" and not is_edit(base, deed[2:]):
        raise NoPlace(deed[3])
    if word == "drop":
        _refuse_number(deed[2], draft.sheets[deed[1]])
    if word == "free":
        _refuse_number(deed[1], draft.pledges)


def _refuse_number(number, things):
    if not 0 <= number < len(things):
        raise NoNumber(number)


def _sheets_behind(sheets, deed):
    found = dict(sheets)
    word = deed[0]
    if word == "join":
        found[deed[1]] = []
    if word == "edit":
        found[deed[1]] = found[deed[1]] + [deed[2:]]
    if word == "drop":
        found[deed[1]] = _but(found[deed[1]], deed[2])
    return found


def _claims_behind(claims, deed):
    if deed[0] == "claim":
        return claims + [deed[1:]]
    return _but(claims, deed[1]) if deed[0] == "free" else claims


def _but(things, number):
    """All of a list but one of them."""
    return things[:number] + things[number + 1:]


def _refuse_broken(program, claims):
    for number, (function, guard, term) in enumerate(claims):
        world = breaking_world(whole(program, function), (guard, term))
        if world is not None:
            raise Broken(number, world)

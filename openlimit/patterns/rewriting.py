"""Rules that rewrite patterns.

The two sides of a rule are written as codes of patterns (openlimit.patterns.codes)
in which P, Q and R stand for any patterns, equal letters for equal ones.
"""

from openlimit.errors import InvalidOperation, LimitError, TooLarge, UnknownName
from openlimit.kinds import is_between
from openlimit.patterns.patterns import check_pattern, pattern_of

EXACT = (
    "dropfirst", "droplast", "emptylimit", "limitempty", "nolimit", "nostar", "once", "regroup", "rejoin", "spread",
    "spreadlast", "starboth", "starempty", "stars", "turn", "unfold",
)
ROUGH = ("absorb", "double", "loosen", "pairs")
TIDY = ("dropfirst", "droplast", "emptylimit", "limitempty", "nolimit", "nostar", "once", "starempty", "stars")
SIDES = {
    "turn": ("|PQ", "|QP"),
    "regroup": ("||PQR", "|P|QR"),
    "rejoin": ("++PQR", "+P+QR"),
    "once": ("|PP", "P"),
    "dropfirst": ("+.P", "P"),
    "droplast": ("+P.", "P"),
    "spread": ("+P|QR", "|+PQ+PR"),
    "spreadlast": ("+|PQR", "|+PR+QR"),
    "stars": ("**P", "*P"),
    "starempty": ("*|.P", "*P"),
    "unfold": ("*P", "|.+P*P"),
    "starboth": ("*|PQ", "*+*P*Q"),
    "nostar": ("*.", "."),
    "nolimit": ("^.", "."),
    "limitempty": ("^|.P", "^P"),
    "emptylimit": ("|.^P", "^P"),
    "loosen": ("*^P", "*P"),
    "absorb": ("^*P", "*P"),
    "double": ("+^P^P", "^P"),
    "pairs": ("^|+PPP", "^P"),
}


def parts_by(side, pattern):
    """Return the dict of the patterns for P, Q and R if the pattern has the form of this side, or None."""
    found = {}
    left = [pattern]
    for sign in side:
        part = left.pop()
        if sign in ("P", "Q", "R"):
            if sign in found and found[sign] != part:
                return None
            found[sign] = part
        elif part.kind() == sign:
            left.extend(part.pieces[::-1])
        else:
            return None
    return found


def made_by(side, parts):
    """Return the pattern of the form of this side with these patterns for P, Q and R."""
    done = []
    for sign in side[::-1]:
        if sign in parts:
            done.append(parts[sign])
        elif sign in ("+", "|"):
            first = done.pop()
            done.append(pattern_of(sign, (first, done.pop())))
        elif sign == ".":
            done.append(pattern_of(sign, ()))
        else:
            done.append(pattern_of(sign, (done.pop(),)))
    return done[0]


def exchanged(pattern, path, part):
    """Return the pattern with this part in place of the pattern at the path."""
    if not path:
        return part
    pieces = list(pattern.pieces)
    pieces[path[0]] = exchanged(pieces[path[0]], path[1:], part)
    return pattern_of(pattern.kind(), pieces)


def pattern_at(pattern, path):
    """Return the pattern at the path; InvalidOperation if it is not a path."""
    if not isinstance(path, tuple):
        raise InvalidOperation("a path is a tuple")
    found = pattern
    for index in path:
        if not is_between(index, 0, len(found.pieces) - 1):
            raise InvalidOperation("the path leads to no pattern")
        found = found.pieces[index]
    return found


def rewritten(pattern, rule, path, *, back=False):
    """Return the pattern that the rule, or the rule back, makes of it at the path."""
    check_pattern(pattern)
    if not isinstance(rule, str) or rule not in SIDES:
        raise UnknownName(rule)
    found = pattern_at(pattern, path)
    if back is not False and back is not True:
        raise InvalidOperation("back is neither False nor True")
    before, behind = SIDES[rule]
    if back:
        before, behind = behind, before
    parts = parts_by(before, found)
    if parts is None:
        raise InvalidOperation("the rule does not apply at the path")
    return exchanged(pattern, path, made_by(behind, parts))


def places_in(pattern):
    """Return the list of the pairs (path, pattern at the path), by ascending paths."""
    found = []
    left = [((), pattern)]
    while left:
        path, part = left.pop()
        found.append((path, part))
        for index in reversed(range(len(part.pieces))):
            left.append(((*path, index), part.pieces[index]))
    return found


def result_at(pattern, path, part, rule):
    """Return what the rule makes of the pattern, with this part at the path, or None if there is no such pattern."""
    before, behind = SIDES[rule]
    parts = parts_by(before, part)
    if parts is None:
        return None
    try:
        return exchanged(pattern, path, made_by(behind, parts))
    except (LimitError, TooLarge):
        return None


def rewrites(pattern, *, rough=False):
    """Yield (rule, path, result) for each path and each rule that applies there."""
    check_pattern(pattern)
    if rough is not False and rough is not True:
        raise InvalidOperation("rough is neither False nor True")
    names = sorted(EXACT + ROUGH) if rough else EXACT
    for path, part in places_in(pattern):
        for rule in names:
            found = result_at(pattern, path, part, rule)
            if found is not None:
                yield (rule, path, found)


def tidied_once(pattern):
    """Return what the first of the tidying rules that applies makes of the pattern, or None."""
    for path, part in places_in(pattern):
        for rule in TIDY:
            found = result_at(pattern, path, part, rule)
            if found is not None:
                return found
    return None


def tidied(pattern):
    """Return the pattern rewritten by the tidying rules as long as one of them applies."""
    check_pattern(pattern)
    found = pattern
    further = tidied_once(found)
    while further is not None:
        found = further
        further = tidied_once(found)
    return found


def after(pattern, *steps):
    """Return the pattern behind the steps (rule, path, back), one after another."""
    check_pattern(pattern)
    found = pattern
    for step in steps:
        if not isinstance(step, tuple) or len(step) != 3:
            raise InvalidOperation("a step has three parts")
        found = rewritten(found, step[0], step[1], back=step[2])
    return found

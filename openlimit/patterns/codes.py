"""Codes of patterns, and the machines that they stand for.

The code of a pattern is a string with one sign for each pattern of which it
consists, itself first, then those of its pieces in order: the letter itself,
and one of the signs below for the other kinds.

A *shape* tells how the places of a pattern come one after another. Sets of
places are integers with a bit for each place, from 0 on; sets of pairs of
places are integers with the bit 8 * i + j for the pair (i, j). A shape has
the string of the letters at the places; whether the empty text matches; the
places with which a text can begin, and end; the places within a limit; and
the pairs that come one after another in the same round (or outside of
limits), from one round to the next, and by entering a limit anew.
"""

EMPTY = "."
SERIES = "+"
EITHER = "|"
STAR = "*"
UPTO = "^"


def places_of(bits):
    """Return the ascending list of the places in the set."""
    return [place for place in range(bits.bit_length()) if (bits >> place) & 1]


def pairs_of(lasts, firsts):
    """Return the set of all pairs of a place of the one set and a place of the other one."""
    return sum([firsts << (8 * place) for place in places_of(lasts)])


def series_shape(first, second):
    """Return the shape of one pattern followed by another one."""
    letters, empty, firsts, lasts, limited, inner, again, anew = first
    many = len(letters)
    more, ends, begins, last, within, inside, further, fresh = second
    begins, last, within = begins << many, last << many, within << many
    return (
        letters + more,
        empty and ends,
        firsts | begins if empty else firsts,
        lasts | last if ends else last,
        limited | within,
        inner | (inside << (9 * many)) | pairs_of(lasts, begins & ~within),
        again | (further << (9 * many)),
        anew | (fresh << (9 * many)) | pairs_of(lasts, begins & within),
    )


def either_shape(first, second):
    """Return the shape of a choice of two patterns."""
    letters, empty, firsts, lasts, limited, inner, again, anew = first
    many = len(letters)
    more, ends, begins, last, within, inside, further, fresh = second
    return (
        letters + more,
        empty or ends,
        firsts | (begins << many),
        lasts | (last << many),
        limited | (within << many),
        inner | (inside << (9 * many)),
        again | (further << (9 * many)),
        anew | (fresh << (9 * many)),
    )


def star_shape(part):
    """Return the shape of a pattern repeated without a limit."""
    letters, _, firsts, lasts, limited, inner, again, anew = part
    inner = inner | pairs_of(lasts, firsts & ~limited)
    return (letters, True, firsts, lasts, limited, inner, again, anew | pairs_of(lasts, firsts & limited))


def upto_shape(part):
    """Return the shape of a pattern, in which there is no limit, repeated within the limit."""
    letters, _, firsts, lasts, _, inner, _, _ = part
    return (letters, True, firsts, lasts, (1 << len(letters)) - 1, inner, pairs_of(lasts, firsts), 0)


def shape_of(code):
    """Return the shape of the pattern with this code."""
    shapes = []
    # Read from its end, a code has the pieces of a pattern ahead of the pattern, the first one last.
    for sign in code[::-1]:
        if sign == SERIES:
            shapes.append(series_shape(shapes.pop(), shapes.pop()))
        elif sign == EITHER:
            shapes.append(either_shape(shapes.pop(), shapes.pop()))
        elif sign == STAR:
            shapes.append(star_shape(shapes.pop()))
        elif sign == UPTO:
            shapes.append(upto_shape(shapes.pop()))
        elif sign == EMPTY:
            shapes.append(("", True, 0, 0, 0, 0, 0, 0))
        else:
            shapes.append((sign, False, 1, 1, 0, 0, 0, 0))
    return shapes[0]


def coded_machine(code, alphabet):
    """Return the machine of the pattern with this code, for an alphabet with all its letters."""
    letters, empty, firsts, lasts, limited, inner, again, anew = shape_of(code)
    steps = []
    for place in places_of(firsts):
        within = (limited >> place) & 1
        steps.append((0, letters[place], within, within, place + 1))
    for pair in places_of(inner | again | anew):
        if (anew >> pair) & 1:
            restart, cost = 1, 1
        elif (inner >> pair) & 1:
            restart, cost = 0, 0
        else:
            restart, cost = 0, 1
        steps.append((pair // 8 + 1, letters[pair & 7], restart, cost, (pair & 7) + 1))
    finals = [place + 1 for place in places_of(lasts)]
    if empty:
        finals = [0, *finals]
    return (alphabet, len(letters) + 1, (0,), tuple(finals), tuple(sorted(steps)))

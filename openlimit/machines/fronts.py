"""What all runs on a word come to, for all caps at once and for needs of any size.

A *front* has a list of pairs for each state: the need and the last count of
runs that begin in a start and lead to this state, in ascending order of the
needs. A pair is left out if another run has neither a greater need nor a
greater last count, so the last counts descend.
"""


def first_front(machine):
    """Return the front of the empty word."""
    return [[(0, 0)] if state in machine[2] else [] for state in range(machine[1])]


def best_pairs(pairs):
    """Return the ascending list of the pairs that are not worse than another one."""
    if len(pairs) < 2:
        return pairs
    kept = []
    for most, last in sorted(pairs):
        if not kept or last < kept[-1][1]:
            kept.append((most, last))
    return kept


def front_behind(steps, front):
    """Return the front behind one more letter with these steps."""
    found = [[] for pairs in front]
    for state, _, restart, cost, goal in steps:
        if restart and front[state]:
            # All runs go on with the same count, so that with the least need is the best one.
            found[goal].append((max(front[state][0][0], cost), cost))
        elif front[state]:
            for most, last in front[state]:
                found[goal].append((max(most, last + cost), last + cost))
    return [best_pairs(pairs) for pairs in found]


def fronts_behind(moves, front, word):
    """Return the list of the front and those behind each letter; moves has the steps of each letter."""
    found = [front]
    for letter in word:
        front = front_behind(moves[letter], front)
        found.append(front)
    return found


def need_in(machine, front):
    """Return the need of the word with this front, or None."""
    return min([front[state][0][0] for state in machine[3] if front[state]], default=None)


def row_in(front, cap):
    """Return the row of the word with this front."""
    # The last counts descend, so the last pair within the cap has the least one.
    counts = [[last for most, last in pairs if most <= cap] for pairs in front]
    return tuple([lasts[-1] if lasts else None for lasts in counts])


def rooms_of(machine, bound):
    """Return the list of the greatest counts from which a final can be reached within the bound, or None."""
    rooms = [bound if state in machine[3] else None for state in range(machine[1])]
    before = []
    # A restart may lead back to a state with more room than it had, so the rounds end only when nothing changes.
    while rooms != before:
        before = list(rooms)
        for state, _, restart, cost, goal in machine[4]:
            room = rooms[goal]
            if room is not None and cost <= room:
                room = bound if restart else room - cost
                if rooms[state] is None or rooms[state] < room:
                    rooms[state] = room
    return rooms


def has_room(rooms, front, bound):
    """Return whether the word with this front can be continued within the bound."""
    row = row_in(front, bound)
    return any([count is not None and room is not None and count <= room for count, room in zip(row, rooms)])

"""Machines, wrong values and plain counting that the tests share."""

import random
import time

from openlimit.machines.machines import make_machine, machine_from

BLOCK = make_machine("ab", 1, (0, "a", 0, 1, 0), (0, "b", 1, 0, 0), finals=(0,))
TOTAL = make_machine("ab", 1, (0, "a", 0, 1, 0), (0, "b", 0, 0, 0), finals=(0,))
MOST = make_machine("ab", 1, (0, "a", 0, 0, 0), (0, "b", 0, 1, 0), finals=(0,))
LESS = make_machine(
    "ab", 2, (0, "a", 0, 1, 0), (0, "b", 0, 0, 0), (1, "a", 0, 0, 1), (1, "b", 0, 1, 1),
    starts=(0, 1), finals=(0, 1),
)


def nested(make, depth=10):
    value = 0
    for _ in range(depth):
        value = make(value)
    return value


# Values that may stand in no place of a machine, a run, a word or a number.
WRONG = [
    True, False, -1, -(10 ** 39), 10 ** 39, "\n", "a\nb", "A", "%", [], [0], ["a"], {}, {"a": 0}, {0: ()},
    nested(lambda value: [value]), nested(lambda value: (value,)), nested(lambda value: {0: value}),
    ((), [], {}), (None,), (True,), ([0],),
]
NOTHING = [None]


def replaced(value, other):
    """Yield the tuple with one thing in it, at any depth, replaced by the other one."""
    for place, part in enumerate(value):
        yield value[:place] + (other,) + value[place + 1:]
        if isinstance(part, tuple):
            for inner in replaced(part, other):
                yield value[:place] + (inner,) + value[place + 1:]


def listed(value):
    """Yield the value with one of its tuples, at any depth or itself, turned into a list."""
    yield list(value)
    for place, part in enumerate(value):
        if isinstance(part, tuple):
            for inner in listed(part):
                yield value[:place] + (inner,) + value[place + 1:]


def spoiled(value):
    """Yield many values that look like this tuple, and are wrong."""
    yield from listed(value)
    for wrong in WRONG + NOTHING:
        yield wrong
        yield from replaced(value, wrong)
    yield value + (0,)
    yield value[:-1]


def words_to(alphabet, length):
    """Return all words of at most so many letters, by their length and then ascending."""
    layer, words = [""], [""]
    for _ in range(length):
        layer = [word + letter for word in layer for letter in alphabet]
        words += layer
    return words


def runs_on(machine, word):
    """Return all runs on the word, each with the tuple of its counts."""
    runs = [(state, (), state, (0,)) for state in range(machine[1])]
    for letter in word:
        longer = []
        for state, indices, here, counts in runs:
            for index, (begin, sign, restart, cost, end) in enumerate(machine[4]):
                if begin == here and sign == letter:
                    count = (0 if restart else counts[-1]) + cost
                    longer.append((state, indices + (index,), end, counts + (count,)))
        runs = longer
    return [((state, indices), end, counts) for state, indices, end, counts in runs]


def need_by_runs(machine, word):
    return min(
        (max(counts) for run, end, counts in runs_on(machine, word) if run[0] in machine[2] and end in machine[3]),
        default=None,
    )


def row_by_runs(machine, cap, word):
    row = [None] * machine[1]
    for run, end, counts in runs_on(machine, word):
        if run[0] in machine[2] and max(counts) <= cap and (row[end] is None or counts[-1] < row[end]):
            row[end] = counts[-1]
    return tuple(row)


def some_machine(seed, letters="ab", most_states=4, most_steps=10):
    """Return a machine that depends on the seed alone."""
    draw = random.Random(seed)
    size = draw.randint(1, most_states)
    steps = tuple(
        (draw.randrange(size), draw.choice(letters), draw.randrange(2), draw.randrange(4), draw.randrange(size))
        for _ in range(draw.randint(0, most_steps))
    )
    starts = tuple(draw.randrange(size) for _ in range(draw.randrange(3)))
    finals = tuple(draw.randrange(size) for _ in range(draw.randrange(3)))
    return machine_from(letters, size, steps, starts, finals)


def full_machine(letters="abcd", seed=0, many=60):
    """Return a machine of eight states, all of them starts and finals, with so many steps."""
    draw = random.Random(seed)
    steps = set()
    while len(steps) < many:
        steps.add(
            (draw.randrange(8), draw.choice(letters), draw.randrange(2), draw.randrange(4), draw.randrange(8))
        )
    return machine_from(letters, 8, tuple(steps), tuple(range(8)), tuple(range(8)))


GRADES = ("restart", "free", "paid", "dear", "none")
SERIES = ("free", "paid", "restart", "dear", "none")


def best_of(grades):
    return GRADES[min((GRADES.index(grade) for grade in grades), default=4)]


def worst_of(grades):
    return SERIES[max((SERIES.index(grade) for grade in grades), default=0)]


def plain_product(first, second):
    size = range(len(first))
    return tuple(
        tuple(best_of([worst_of([first[i][k], second[k][j]]) for k in size]) for j in size) for i in size
    )


def some_table(draw, size):
    """Return a table with more or less runs."""
    kinds = GRADES + ("none",) * draw.choice((0, 2, 8))
    return tuple(tuple(draw.choice(kinds) for _ in range(size)) for _ in range(size))


def fitting_recipes(draw, machines, many):
    """Return some recipes that fit all the machines, longer and longer ones."""
    from openlimit.tables.recipes import fits, pump_recipe, then_recipe, word_recipe

    found = [word_recipe(letter) for letter in machines[0][0]]
    while len(found) < many:
        recipe = then_recipe(draw.choice(found), draw.choice(found)) if draw.random() < 0.5 else draw.choice(found)
        if draw.random() < 0.6:
            for _ in range(6):
                pumped = pump_recipe(recipe)
                if fits(pumped, *machines):
                    recipe = pumped
                    break
                recipe = then_recipe(recipe, recipe)
                if len(recipe) > 60:
                    break
        if len(recipe) <= 60:
            found.append(recipe)
    return found


def sets_machine(moves, starts, finals=255):
    """Return a plain machine of eight states; sets of states are written as bits."""
    steps = tuple(
        (state, letter, 0, 0, goal)
        for letter, goals in zip("ab", moves) for state in range(8) for goal in range(8) if goals[state] >> goal & 1
    )
    states = [tuple(state for state in range(8) if bits >> state & 1) for bits in (starts, finals)]
    return machine_from("ab", 8, steps, *states)


def seconds(call):
    """Return how long the call takes."""
    begin = time.process_time()
    call()
    return time.process_time() - begin


def least_seconds(call, rounds=7):
    """Return the least time that the call takes in some rounds."""
    return min(seconds(call) for _ in range(rounds))


def plain_work():
    """Do what takes about as long as one thousand short calls, whatever machine this is."""
    found = {}
    for number in range(10000):
        state, letter, cost = number & 7, "ab"[number & 1], number & 3
        row = (state, letter, cost)
        if type(state) == int and 0 <= state < 8 and row not in found:
            found[row] = [cost] * 3
        found[row][cost % 3] = number + cost
    return found


def is_within(call, many, rounds=25):
    """Return whether the call takes less than so many times the plain work, both at their best in some rounds."""
    best, unit = seconds(call), seconds(plain_work)
    for _ in range(rounds):
        best, unit = min(best, seconds(call)), min(unit, seconds(plain_work))
        if best < many * unit:
            return True
    return False


def slowness():
    """Return how many times slower this machine is now than the one on which the limits of time were set, at least 1."""
    return max(1, least_seconds(plain_work, 3) / 0.004)


def some_pattern(draw, depth=4, letters="ab", limits=True):
    """Return a pattern of at most so many levels; with limits it may have some, but none within another one."""
    from openlimit.patterns.patterns import Either, Empty, Letter, Series, Star, Upto

    if depth == 1 or draw.random() < 0.15:
        return Letter(draw.choice(letters)) if draw.random() < 0.85 else Empty()
    kind = draw.choice((Series, Series, Either, Either, Star, Upto if limits else Star))
    if kind in (Star, Upto):
        return kind(some_pattern(draw, depth - 1, letters, limits and kind is Star))
    return kind(*[some_pattern(draw, depth - 1, letters, limits) for _ in range(2)])


def some_patterns(seed, many, depth=4, letters="ab"):
    """Return so many patterns within the bounds."""
    from openlimit.errors import TooLarge

    draw, found = random.Random(seed), []
    while len(found) < many:
        try:
            found.append(some_pattern(draw, depth, letters))
        except TooLarge:
            pass
    return found


def matches_with(pattern, number, text):
    """Return whether the text matches the pattern with this number, after the words of the document."""
    known = {}

    def rounds(part, begin, end, left):
        """Return whether the text between these places is made of at most so many texts of the part that are not empty."""
        if begin == end:
            return True
        return left > 0 and any(
            match(part, begin, middle) and rounds(part, middle, end, left - 1) for middle in range(begin + 1, end + 1)
        )

    def look(pattern, begin, end):
        kind = type(pattern).__name__
        if kind == "Letter":
            return text[begin:end] == str(pattern)
        if kind == "Empty":
            return begin == end
        if kind == "Series":
            first, second = pattern.pieces
            return any(match(first, begin, at) and match(second, at, end) for at in range(begin, end + 1))
        if kind == "Either":
            return any(match(part, begin, end) for part in pattern.pieces)
        return rounds(pattern.pieces[0], begin, end, end - begin if kind == "Star" else number)

    def match(pattern, begin, end):
        key = (str(pattern), begin, end)
        if key not in known:
            known[key] = look(pattern, begin, end)
        return known[key]

    return match(pattern, 0, len(text))


def need_by_numbers(pattern, text):
    """Return the least number with which the text matches, found number by number, or None."""
    for number in range(len(text) + 1):
        if matches_with(pattern, number, text):
            return number
    return None


# Values that are no patterns, whatever the others are.
NO_PATTERNS = WRONG + NOTHING + ["a", "()", ("a", "b"), 0, 1]

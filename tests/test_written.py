"""[5.2], [5.3]: written words."""

import random
import unittest

from openlimit import errors
from openlimit.machines.machines import is_meter, machine_from, make_machine
from openlimit.machines.needs import need, row_of
from openlimit.tables import written
from openlimit.tables.grades import value_of
from openlimit.tables.prices import doubled_prices, few_repeats, repeated_prices
from openlimit.tables.recipes import ceiling, pump_recipe, tables_in, then_recipe, word_recipe
from openlimit.tables.written import (
    is_written, length_of, price_of, row_of_written, spelled, written_of,
)
from tests.helper import (
    BLOCK, LESS, MOST, NOTHING, TOTAL, WRONG, fitting_recipes, full_machine, listed, replaced, seconds, slowness,
    some_machine, spoiled,
)

GREAT = 10 ** 18
WORD = (("word", "aab"), ("times", 0, 3), ("then", 1, 0))
BOTH = then_recipe(pump_recipe(word_recipe("a")), pump_recipe(word_recipe("b")))


def wrong_words():
    """Yield values that look like written words, and are none of any alphabet."""
    # A number that is replaced by another right number gives a right word.
    right = (0, [0])
    yield from listed(WORD)
    for wrong in WRONG + NOTHING:
        yield wrong
        if wrong not in right:
            yield from (value for value in replaced(WORD, wrong))
    rows = [
        ("word", "A"), ("word", "a" * 201), ("word", 0), ("word",), ("word", "a", "b"), ("times", 0), ("times", 0, 1, 2),
        ("times", 0, -1), ("times", 0, GREAT + 1), ("times", 0, True), ("times", 3, 1), ("times", -1, 1),
        ("times", False, 1), ("times", "0", 1), ("times", 0, "1"), ("then", 0), ("then", 0, 3), ("then", 3, 0),
        ("then", 0, 0, 0), ("then", 0, True), ("letter", "a"), ("pump", 0), (), "word", ["word", "a"], ("word", ["a"]),
        ("Word", "a"), ("", 0, 0),
    ]
    for row in rows:
        yield WORD + (row,)
        yield (row,)
    yield ()
    yield WORD + (0,)
    yield (("word", "a"),) * 401
    yield (("word", "ab"), ("word", "cde"))


def some_written(draw, rows, most):
    found = []
    for place in range(rows):
        kind = draw.choice(("word", "then", "times", "then")) if place else "word"
        if kind == "word":
            found.append(("word", "".join(draw.choice("ab") for _ in range(draw.randint(0, 3)))))
        elif kind == "then":
            found.append(("then", draw.randrange(place), draw.randrange(place)))
        else:
            found.append(("times", draw.randrange(place), draw.randint(0, most)))
    return tuple(found)


def meter_of(machine):
    steps = tuple((step[0], step[1], 0, step[3], step[4]) for step in machine[4])
    return machine_from(machine[0], machine[1], steps, machine[2], machine[3])


def pairs_met(machine, cap, value):
    """Return the set of the pairs that are met, read step by step, and the row behind the word."""
    met = set()

    def read(index, row):
        met.add((index, row))
        kind, *rest = value[index]
        if kind == "word":
            return row_behind_word(machine, cap, row, rest[0])
        if kind == "then":
            return read(rest[1], read(rest[0], row))
        fronts = [row]
        while len(fronts) <= rest[1]:
            row = read(rest[0], row)
            if row in fronts:
                begin = fronts.index(row)
                return fronts[begin + (rest[1] - begin) % (len(fronts) - begin)]
            fronts.append(row)
        return row

    return met, read(len(value) - 1, row_of(machine, cap, ""))


def row_behind_word(machine, cap, row, word):
    for letter in word:
        after = [None] * machine[1]
        for state, sign, restart, cost, goal in machine[4]:
            if sign == letter and row[state] is not None:
                count = (0 if restart else row[state]) + cost
                if count <= cap and (after[goal] is None or count < after[goal]):
                    after[goal] = count
        row = tuple(after)
    return row


# Each a moves the only run on around a cycle, and a b leads from one cycle to the other one.
CYCLES = make_machine(
    "ab", 8, *[(i, "a", 0, 0, (i + 1) % 3) for i in range(3)], *[(3 + i, "a", 0, 0, 3 + (i + 1) % 5) for i in range(5)],
    *[(i, "b", 0, 0, i) for i in range(8)], starts=(0, 3), finals=(0,)
)


class FormTests(unittest.TestCase):
    def test_constants(self):
        self.assertEqual((written.MAX_TIMES, written.MAX_SPELLED), (10 ** 18, 10000))

    def test_written_words(self):
        words = [
            WORD, (("word", ""),), (("word", "a" * 200),), (("word", "a"), ("times", 0, 0)),
            (("word", "b"), ("times", 0, GREAT)), (("word", "a"),) * 400, WORD + (("then", 0, 0), ("times", 3, 1)),
        ]
        for value in words:
            self.assertIs(is_written("ab", value), True)
            self.assertIs(is_written("abyz", value), True)
        self.assertIs(is_written("c", (("word", ""), ("times", 0, 2))), True)
        self.assertIs(is_written("a", WORD), False)
        self.assertIs(is_written("b", words[2]), False)
        self.assertIs(is_written("ab", (("word", "a"), ("times", 0, GREAT + 1))), False)
        self.assertIs(is_written("ab", (("word", "a"),) * 401), False)
        self.assertIs(is_written("ab", (("word", "a"), ("times", 1, 2))), False)
        self.assertIs(is_written("ab", (("times", 0, 2),)), False)

    def test_wrong_values(self):
        for wrong in wrong_words():
            self.assertIs(is_written("abcd", wrong), False, wrong)
            self.assertRaises(errors.InvalidWritten, length_of, wrong)
            self.assertRaises(errors.InvalidWritten, spelled, wrong)
            self.assertRaises(errors.InvalidWritten, price_of, LESS, wrong)
            self.assertRaises(errors.InvalidWritten, row_of_written, BLOCK, 2, wrong)
        other = (("word", "abc"),)
        self.assertRaises(errors.InvalidWritten, price_of, LESS, other)
        self.assertRaises(errors.InvalidWritten, row_of_written, BLOCK, 2, other)
        self.assertEqual(length_of(other), 3)

    def test_alphabets(self):
        for wrong in WRONG + NOTHING + ["", "ba", "aa", "abcde", "aB", ("a",), 1]:
            self.assertRaises(errors.InvalidMachine, is_written, wrong, None)
            self.assertRaises(errors.InvalidMachine, is_written, wrong, WORD)


class MakingTests(unittest.TestCase):
    def test_written_of(self):
        self.assertEqual(
            written_of(BOTH, 5, 2),
            (("word", "a"), ("times", 0, 18), ("word", "b"), ("times", 2, 18), ("then", 1, 3)),
        )
        self.assertEqual(written_of(pump_recipe(word_recipe("a")), 1, 1)[1], ("times", 0, 4))
        self.assertEqual(written_of(BOTH, 10 ** 12, 8)[1], ("times", 0, 9 * 10 ** 12 + 9))
        self.assertIs(is_written("ab", written_of(BOTH, 10 ** 12, 8)), True)

    def test_wrong_numbers(self):
        for wrong in WRONG + NOTHING + [0, 10 ** 12 + 1, "1", (1,)]:
            with self.assertRaises(errors.InvalidNumber) as caught:
                written_of(BOTH, wrong, None)
            self.assertIs(caught.exception.value, wrong)
        for wrong in WRONG + NOTHING + [0, 9, "1", (1,)]:
            with self.assertRaises(errors.InvalidNumber) as caught:
                written_of(BOTH, 1, wrong)
            self.assertIs(caught.exception.value, wrong)
        for wrong in [*spoiled(BOTH), (), word_recipe("abcd") + (("letter", "e"),), WORD, (("letter", "a"),) * 401]:
            if wrong != BOTH[:-1]:
                self.assertRaises(errors.InvalidRecipe, written_of, wrong, 0, 0)

    def test_lengths_and_words(self):
        draw = random.Random(2)
        for _ in range(300):
            value = some_written(draw, draw.randint(1, 7), 4)
            texts = []
            for kind, *rest in value:
                if kind == "word":
                    texts.append(rest[0])
                else:
                    texts.append(texts[rest[0]] + texts[rest[1]] if kind == "then" else texts[rest[0]] * rest[1])
            self.assertEqual(length_of(value), len(texts[-1]))
            self.assertEqual(spelled(value), texts[-1])

    def test_great_lengths(self):
        value = (("word", "ab"), ("times", 0, GREAT), ("times", 1, GREAT), ("then", 2, 0), ("word", ""))
        self.assertEqual([length_of(value[:many]) for many in range(1, 6)], [2, 2 * GREAT, 2 * 10 ** 36, 2 * 10 ** 36 + 2, 0])
        tower = (("word", "a"),) + tuple(("times", place, GREAT) for place in range(399))
        self.assertEqual(length_of(tower), GREAT ** 399)

    def test_spelled_at_its_limit(self):
        doubled = (("word", "a"),) + tuple(("then", place, place) for place in range(59))
        self.assertEqual(length_of(doubled), 2 ** 59)
        for value in (doubled, (("word", "a"), ("times", 0, 10001)), (("word", "a"), ("times", 0, GREAT))):
            with self.assertRaises(errors.TooLarge) as caught:
                spelled(value)
            self.assertEqual(caught.exception.limit, 10000)
        self.assertEqual(spelled((("word", "ab"), ("times", 0, 5000))), "ab" * 5000)
        self.assertEqual(spelled(doubled[:14]), "a" * 8192)
        # What is not read may be as long as it likes.
        self.assertEqual(spelled(doubled + (("times", 59, 0), ("word", "b"), ("then", 60, 61))), "b")
        self.assertEqual(spelled(doubled + (("word", "b"),)), "b")
        self.assertEqual(spelled((("word", ""), ("times", 0, GREAT), ("times", 1, GREAT))), "")
        tower = (("word", ""),) + tuple(("times", place, GREAT) for place in range(399))
        self.assertEqual(spelled(tower), "")
        deep = (("word", "a"), ("times", 0, GREAT), ("times", 1, GREAT), ("times", 2, 0), ("times", 3, GREAT))
        self.assertEqual([spelled(deep), length_of(deep)], ["", 0])


class PriceTests(unittest.TestCase):
    def test_against_needs(self):
        draw = random.Random(3)
        for seed in range(400):
            machine = meter_of(some_machine(seed, most_steps=14))
            value = some_written(draw, draw.randint(1, 7), 4)
            if length_of(value) <= 200:
                self.assertEqual(price_of(machine, value), need(machine, spelled(value)))

    def test_great_repeats(self):
        value = (("word", "aab"), ("times", 0, GREAT))
        self.assertEqual([price_of(TOTAL, value), price_of(MOST, value), price_of(LESS, value)], [2 * GREAT, GREAT, GREAT])
        tower = (("word", "ab"),) + tuple(("times", place, GREAT) for place in range(399))
        self.assertEqual(price_of(TOTAL, tower), GREAT ** 399)
        self.assertEqual(price_of(TOTAL, tower[:3] + (("times", 2, 0),)), 0)
        self.assertEqual(price_of(TOTAL, tower[:3] + (("times", 2, 0), ("then", 3, 2))), GREAT ** 2)

    def test_great_repeats_against_doubling(self):
        draw = random.Random(6)
        for _ in range(150):
            size = draw.randint(1, 8)
            many, most = draw.choice((0.15, 0.3, 0.6)), draw.choice((1, 5, 1000))
            prices = [
                {goal: draw.randint(0, most) for goal in range(size) if draw.random() < many} for _ in range(size)
            ]
            for times in (2519, 2520, 2521, 3361, draw.randint(2520, 10 ** 6), draw.randint(10 ** 17, GREAT), GREAT):
                self.assertEqual(repeated_prices(prices, times), few_repeats(doubled_prices(prices, times), times))

    def test_cycles_of_all_lengths(self):
        # From one cycle to another one, where the cheaper one has another length than the whole asks for.
        for length in range(1, 8):
            steps = [(i, "a", 0, 1, (i + 1) % length) for i in range(length)] + [(0, "a", 0, 3, 7), (7, "a", 0, 2, 7)]
            machine = make_machine("a", 8, *steps, finals=(0, 7))
            for times in (*range(0, 60), *range(2500, 2600), GREAT, GREAT - 1, GREAT - 5):
                rest = times % length
                expected = times if rest == 0 else times - rest + min(3 + 2 * (rest - 1), 3 + 2 * (rest - 1) + length)
                self.assertEqual(price_of(machine, (("word", "a"), ("times", 0, times))), expected)

    def test_words_that_are_not_accepted(self):
        machine = make_machine("ab", 2, (0, "a", 0, 1, 1), finals=(1,))
        self.assertEqual(price_of(machine, (("word", "a"),)), 1)
        for value in ((("word", ""),), (("word", "a"), ("times", 0, GREAT)), (("word", "b"), ("times", 0, 7))):
            self.assertIsNone(price_of(machine, value))
        self.assertIsNone(price_of(("a", 1, (), (), ()), (("word", ""),)))
        self.assertEqual(price_of(machine, (("word", "b"), ("times", 0, 0), ("word", "a"), ("then", 1, 2))), 1)

    def test_errors(self):
        for wrong in [*spoiled(LESS), None]:
            self.assertRaises(errors.InvalidMachine, price_of, wrong, None)
        self.assertFalse(is_meter(BLOCK))
        self.assertRaises(errors.InvalidOperation, price_of, BLOCK, None)

    def test_time(self):
        meter = meter_of(full_machine("a"))
        tower = [("word", "a" * 200), ("word", "a")]
        for place in range(199):
            tower += [("times", len(tower) - 1, GREAT - place), ("then", len(tower), 0)]
        words = [("word", "abcd" * 50)]
        while len(words) < 399:
            words += [("word", "abca" * 50), ("then", len(words) - 1, len(words))]
        self.assertLess(seconds(lambda: price_of(meter, tuple(tower[:400]))), slowness())
        self.assertLess(seconds(lambda: price_of(meter_of(full_machine()), tuple(words))), slowness())
        self.assertLess(seconds(lambda: row_of_written(full_machine(), 30, tuple(words))), slowness())
        self.assertLess(seconds(lambda: row_of_written(full_machine("a"), 30, tuple(tower[:400]))), slowness())


class RowTests(unittest.TestCase):
    def test_against_rows(self):
        draw = random.Random(4)
        for seed in range(300):
            machine = some_machine(seed, most_steps=14)
            value = some_written(draw, draw.randint(1, 7), 4)
            for cap in (0, 1, 4, 30):
                if length_of(value) <= 200:
                    self.assertEqual(row_of_written(machine, cap, value), row_of(machine, cap, spelled(value)))

    def test_great_repeats(self):
        draw = random.Random(5)
        for seed in range(60):
            machine = some_machine(seed, most_steps=14)
            value = some_written(draw, draw.randint(2, 7), 10 ** draw.choice((1, 3, 18)))
            for cap in (0, 3, 30):
                self.assertEqual(row_of_written(machine, cap, value), pairs_met(machine, cap, value)[1])
        # Two states stand ahead of a cycle of three.
        tail = make_machine("a", 5, *[(i, "a", 0, 0, (i + 1) if i < 4 else 2) for i in range(5)], finals=(4,))
        for times in (*range(12), GREAT, GREAT - 1, GREAT - 2):
            state = times if times < 5 else 2 + (times - 2) % 3
            row = row_of_written(tail, 3, (("word", "a"), ("times", 0, times)))
            self.assertEqual(row, tuple(0 if i == state else None for i in range(5)))
        value = (("word", "a"), ("times", 0, GREAT))
        begins = [GREAT % 3, 3 + GREAT % 5]
        self.assertEqual(row_of_written(CYCLES, 0, value), tuple(0 if i in begins else None for i in range(8)))
        self.assertEqual(row_of_written(BLOCK, 30, value), (None,))
        self.assertEqual(row_of_written(MOST, 30, value), (0,))

    def test_pairs(self):
        # The rows of CYCLES come again after fifteen letters, so each of 133 rows of the word meets fifteen of them.
        value = (("word", "a"), ("word", ""), ("then", 0, 1))
        value += tuple(("then", place - 1, 1) for place in range(3, 133)) + (("times", 132, GREAT),)
        self.assertEqual(len(pairs_met(CYCLES, 0, value)[0]), 1996)
        for _ in range(4):
            value += (("times", len(value) - 1, 1),)
            self.assertEqual(row_of_written(CYCLES, 0, value), pairs_met(CYCLES, 0, value)[1])
        self.assertEqual(len(pairs_met(CYCLES, 0, value)[0]), 2000)
        value += (("times", len(value) - 1, 1),)
        self.assertEqual(len(pairs_met(CYCLES, 0, value)[0]), 2001)
        with self.assertRaises(errors.TooLarge) as caught:
            row_of_written(CYCLES, 0, value)
        self.assertEqual(caught.exception.limit, 2000)
        # All other errors go ahead.
        self.assertRaises(errors.InvalidNumber, row_of_written, CYCLES, 31, value)
        self.assertRaises(errors.InvalidWritten, row_of_written, CYCLES, 0, value + (("word", "c"),))

    def test_what_is_not_read_does_not_count(self):
        value = (("word", "a"),) + tuple(("times", 0, GREAT) for _ in range(398)) + (("times", 5, 0),)
        self.assertEqual(row_of_written(CYCLES, 0, value), row_of(CYCLES, 0, ""))

    def test_errors(self):
        value = (("word", "a"), ("times", 0, 40))
        for wrong in [*spoiled(LESS), None]:
            self.assertRaises(errors.InvalidMachine, row_of_written, wrong, None, None)
        for wrong in WRONG + NOTHING + [31, "1"]:
            with self.assertRaises(errors.InvalidNumber) as caught:
                row_of_written(BLOCK, wrong, None)
            self.assertIs(caught.exception.value, wrong)
        self.assertEqual([row_of_written(TOTAL, 30, value), row_of_written(TOTAL, 0, value)], [(None,), (None,)])
        self.assertEqual(row_of_written(TOTAL, 30, (("word", "a"), ("times", 0, 30))), (30,))
        self.assertEqual(row_of_written(TOTAL, 0, (("word", "a"), ("times", 0, 0))), (0,))

    def test_deep(self):
        tower = (("word", "ab"),) + tuple(("times", place, 2) for place in range(399))
        self.assertEqual(row_of_written(BLOCK, 1, tower), (0,))
        self.assertEqual(row_of_written(BLOCK, 0, tower), (None,))


class GrowthTests(unittest.TestCase):
    def test_words_of_recipes(self):
        kinds = {}
        for seed in range(150):
            draw = random.Random(seed)
            machine = some_machine(seed, most_states=3, most_steps=9)
            if seed % 2:
                machine = meter_of(machine[:3] + (tuple(range(machine[1])),) + machine[4:])
            for recipe in fitting_recipes(draw, [machine], 9):
                value = value_of(machine, tables_in(recipe, machine)[0])
                pumps = any(row[0] == "pump" for row in recipe)
                kinds[value, pumps] = kinds.get((value, pumps), 0) + 1
                for size in (machine[1], 8):
                    for number in (1, 2, 3, 30, 10 ** 12):
                        self.check(machine, recipe, value, number, written_of(recipe, number, size))
        # Only pumped words are dear; all other values occur with pumps and without.
        self.assertEqual(len(kinds), 9, kinds)

    def check(self, machine, recipe, value, number, word):
        most = ceiling(recipe, machine)
        if value in ("dear", "none"):
            cap = min(number, 30)
            self.assertEqual([row_of_written(machine, cap, word)[final] for final in machine[3]], [None] * len(machine[3]))
            if is_meter(machine):
                price = price_of(machine, word)
                self.assertTrue(price is None or price > number)
        elif most <= 30:
            row = row_of_written(machine, most, word)
            self.assertTrue(any(row[final] is not None for final in machine[3]))
        if value not in ("dear", "none") and is_meter(machine):
            self.assertLessEqual(price_of(machine, word), most)
        if length_of(word) <= 200:
            least = need(machine, spelled(word))
            if value in ("dear", "none"):
                self.assertTrue(least is None or least > number)
            else:
                self.assertLessEqual(least, most)

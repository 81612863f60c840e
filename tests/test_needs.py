"""[0.8], [0.10], [0.11], [2.1]: runs, needs and rows."""

import unittest

from openlimit import errors
from openlimit.machines import needs, slacks
from openlimit.machines.machines import machine_from, make_machine, steps_from
from openlimit.machines.needs import (
    best_run, counts_on, first_row, is_run, need, need_of_run, needs_to, row_behind, row_of,
)
from tests.helper import (
    BLOCK, LESS, MOST, NOTHING, TOTAL, WRONG, full_machine, listed, need_by_runs, replaced, row_by_runs, runs_on,
    seconds, slowness, some_machine, spoiled, words_to,
)

# A restart with a cost, and steps that do not all follow one another.
COSTLY = make_machine(
    "ab", 3, (0, "a", 0, 2, 1), (1, "a", 1, 3, 1), (1, "b", 0, 1, 2), (2, "a", 1, 1, 0), (2, "b", 1, 0, 2),
    starts=(0, 2), finals=(1, 2),
)
SHUT = make_machine("ab", 1, *BLOCK[4])
WRONG_WORDS = [None, True, 0, -1, 10 ** 39, "c", "aB", "a ", "a\n", "\n", (), ("a",), ["a"], [], {}, "a" * 201, [[[]]]]


def least_cap_by_rows(machine, word):
    """Return the least number under which a row has an entry at a final, or None."""
    for cap in range(3 * len(word) + 1):
        row = {state: 0 for state in machine[2]}
        for letter in word:
            after = {}
            for state, sign, restart, cost, goal in machine[4]:
                if sign == letter and state in row:
                    count = (0 if restart else row[state]) + cost
                    if count <= min(cap, after.get(goal, cap)):
                        after[goal] = count
            row = after
        if any(state in row for state in machine[3]):
            return cap
    return None


class ConstantTests(unittest.TestCase):
    def test_constants(self):
        self.assertEqual((needs.MAX_WORD, needs.MAX_CAP), (200, 30))

    def test_the_short_fields(self):
        self.assertEqual(slacks.SHORT, slacks.fields_of(16))


class RunTests(unittest.TestCase):
    def test_runs(self):
        self.assertIs(is_run(COSTLY, "aab", (0, (0, 1, 2))), True)
        self.assertIs(is_run(COSTLY, "aab", (1, (1, 1, 2))), True)
        self.assertIs(is_run(COSTLY, "aba", (0, (0, 2, 3))), True)
        for state in range(3):
            self.assertIs(is_run(COSTLY, "", (state, ())), True)
        self.assertIs(is_run(COSTLY, "", (3, ())), False)
        self.assertIs(is_run(COSTLY, "a", (0, ())), False)
        self.assertIs(is_run(COSTLY, "", (0, (0,))), False)

    def test_other_letters_begins_and_steps(self):
        self.assertIs(is_run(COSTLY, "abb", (0, (0, 1, 2))), False)
        self.assertIs(is_run(COSTLY, "aa", (0, (0, 1, 2))), False)
        self.assertIs(is_run(COSTLY, "aabb", (0, (0, 1, 2))), False)
        self.assertIs(is_run(COSTLY, "aab", (1, (0, 1, 2))), False)
        self.assertIs(is_run(COSTLY, "aa", (0, (0, 0))), False)
        self.assertIs(is_run(COSTLY, "a", (0, (5,))), False)
        self.assertIs(is_run(COSTLY, "", (-1, ())), False)
        self.assertIs(is_run(COSTLY, "b", (2, (4,))), True)
        self.assertIs(is_run(COSTLY, "b", (2, (-1,))), False)

    def test_wrong_values(self):
        for value in [*spoiled((1, (1, 1, 2))), *spoiled((0, (0,))), (0,), (0, (0,), 0), "ab", "", (0, "a")]:
            self.assertIs(is_run(COSTLY, "aab", value), False, value)
        self.assertIs(is_run(BLOCK, "a", (False, (0,))), False)
        self.assertIs(is_run(BLOCK, "a", (0, (False,))), False)
        self.assertIs(is_run(BLOCK, "b", (0, (True,))), False)
        self.assertIs(is_run(BLOCK, "a", steps_from(BLOCK, 0)), False)

    def test_long_runs(self):
        self.assertIs(is_run(BLOCK, "a" * 200, (0, (0,) * 200)), True)
        self.assertIs(is_run(BLOCK, "a" * 200, (0, (0,) * 201)), False)
        self.assertEqual(counts_on(BLOCK, (0, (0,) * 200)), tuple(range(201)))
        self.assertEqual(need_of_run(BLOCK, (0, (0,) * 200)), 200)
        for call in (counts_on, need_of_run):
            self.assertRaises(errors.InvalidRun, call, BLOCK, (0, (0,) * 201))

    def test_errors(self):
        for machine in [*spoiled(COSTLY), "ab"]:
            self.assertRaises(errors.InvalidMachine, is_run, machine, 0, None)
            self.assertRaises(errors.InvalidMachine, counts_on, machine, None)
            self.assertRaises(errors.InvalidMachine, need_of_run, machine, None)
        for word in WRONG_WORDS:
            self.assertRaises(errors.InvalidWord, is_run, BLOCK, word, (0, ()))

    def test_wrong_runs(self):
        wrong = [
            *spoiled((1, (1, 1, 2))), (0, (0, 0)), (2, (0,)), (0, (5,)), (3, ()), (0, [0]), (0, 0), "run",
            (0, (0,) * 201), (2, (-1,)), (-1, ()),
        ]
        for run in wrong:
            self.assertRaises(errors.InvalidRun, counts_on, COSTLY, run)
            self.assertRaises(errors.InvalidRun, need_of_run, COSTLY, run)

    def test_counts(self):
        self.assertEqual(counts_on(COSTLY, (1, ())), (0,))
        self.assertEqual(need_of_run(COSTLY, (1, ())), 0)
        self.assertEqual(counts_on(COSTLY, (0, (0, 2))), (0, 2, 3))
        self.assertEqual(counts_on(COSTLY, (0, (0, 2, 3))), (0, 2, 3, 1))
        self.assertEqual(counts_on(COSTLY, (1, (1, 1, 2, 4))), (0, 3, 3, 4, 0))
        self.assertEqual(need_of_run(COSTLY, (1, (1, 1, 2, 4))), 4)
        self.assertEqual(need_of_run(COSTLY, (2, (4, 4))), 0)

    def test_against_all_runs(self):
        for seed in range(40):
            machine = some_machine(seed)
            for word in words_to("ab", 3):
                runs = runs_on(machine, word)
                for run, _, counts in runs:
                    self.assertIs(is_run(machine, word, run), True)
                    self.assertEqual(counts_on(machine, run), counts)
                    self.assertEqual(need_of_run(machine, run), max(counts))
                known = {run for run, _, _ in runs}
                for other in words_to("ab", 2):
                    for run, _, _ in runs_on(machine, other):
                        self.assertIs(is_run(machine, word, run), run in known)


class NeedTests(unittest.TestCase):
    def check_best(self, machine, word, expected):
        self.assertEqual(need(machine, word), expected)
        run = best_run(machine, word)
        if expected is None:
            self.assertIsNone(run)
            return
        self.assertIs(is_run(machine, word, run), True)
        self.assertIn(run[0], machine[2])
        self.assertIn(machine[4][run[1][-1]][4] if word else run[0], machine[3])
        self.assertEqual(need_of_run(machine, run), expected)

    def test_examples_of_machines(self):
        for word in words_to("ab", 6):
            blocks = max(len(block) for block in word.split("b"))
            self.check_best(BLOCK, word, blocks)
            self.check_best(TOTAL, word, word.count("a"))
            self.check_best(MOST, word, word.count("b"))
            self.check_best(LESS, word, min(word.count("a"), word.count("b")))

    def test_against_all_runs(self):
        for seed in range(200):
            machine = some_machine(seed)
            for word in words_to("ab", 4):
                self.check_best(machine, word, need_by_runs(machine, word))

    def test_no_accepted_run(self):
        for machine in (SHUT, BLOCK[:2] + ((),) + BLOCK[3:], ("ab", 8, (0,), (0,), ())):
            self.check_best(machine, "a", None)
        self.check_best(SHUT, "", None)
        self.check_best(("ab", 8, (0,), (1,), ()), "", None)
        self.check_best(("ab", 8, (0, 3), (3, 5), ()), "", 0)

    def test_the_first_beginning_need_not_be_the_best_whole(self):
        # One way costs more at first and restarts, the other one is free at first and pays behind.
        machine = make_machine(
            "ab", 4, (0, "a", 0, 2, 1), (0, "a", 0, 0, 2), (1, "b", 1, 0, 3), (2, "b", 0, 3, 3), finals=(3,)
        )
        self.check_best(machine, "ab", 2)

    def test_long_words(self):
        self.check_best(BLOCK, "a" * 200, 200)
        self.check_best(BLOCK, "ab" * 100, 1)
        self.check_best(LESS, "a" * 101 + "b" * 99, 99)
        dear = make_machine("a", 1, (0, "a", 0, 3, 0), finals=(0,))
        self.check_best(dear, "a" * 200, 600)
        self.check_best(make_machine("a", 1, (0, "a", 1, 3, 0), finals=(0,)), "a" * 200, 3)

    def test_needs_around_sixteen(self):
        # Small needs are found in one go, greater ones one cap after another; both ways must agree where they meet.
        for many in range(12, 20):
            self.check_best(BLOCK, "a" * many + "b" + "a" * 3, many)
            self.check_best(LESS, "a" * many + "b" * many + "a", many)
        for seed in range(60):
            machine = some_machine(seed, most_steps=14)
            for word in ("ab" * 9, "a" * 7 + "b" * 7, "aab" * 6, "abb" * 11):
                greatest = max(counts_on(machine, best_run(machine, word) or (0, ())))
                self.check_best(machine, word, least_cap_by_rows(machine, word))
                self.assertEqual(need(machine, word) or 0, greatest)

    def test_errors(self):
        for machine in [*spoiled(LESS), None, "ab"]:
            self.assertRaises(errors.InvalidMachine, need, machine, 0)
            self.assertRaises(errors.InvalidMachine, best_run, machine, 0)
        for word in WRONG_WORDS:
            self.assertRaises(errors.InvalidWord, need, BLOCK, word)
            self.assertRaises(errors.InvalidWord, best_run, BLOCK, word)
            self.assertRaises(errors.InvalidWord, need, SHUT, word)

    def test_time(self):
        cheap = machine_from("a", 8, full_machine("a")[4], (0,), (7,))
        meter = machine_from(
            "a", 8, tuple((i % 8, "a", 0, 1 + i // 24, (i * 5 + i // 8) % 8) for i in range(60)), (0,), (7,)
        )
        for machine in (cheap, meter):
            self.assertLess(seconds(lambda: need(machine, "a" * 200)), 0.5 * slowness())
            self.assertLess(seconds(lambda: best_run(machine, "a" * 200)), 0.5 * slowness())
            self.assertLess(seconds(lambda: row_of(machine, 30, "a" * 200)), 0.5 * slowness())
        self.check_best(cheap, "a" * 200, need(cheap, "a" * 200))
        self.check_best(meter, "a" * 200, need(meter, "a" * 200))


class RowTests(unittest.TestCase):
    def test_first_row(self):
        self.assertEqual(first_row(COSTLY), (0, None, 0))
        self.assertEqual(first_row(("a", 2, (), (), ())), (None, None))
        for machine in [*spoiled(COSTLY), None]:
            self.assertRaises(errors.InvalidMachine, first_row, machine)

    def test_against_all_runs(self):
        for seed in range(100):
            machine = some_machine(seed)
            for cap in (0, 1, 2, 4, 7, 30):
                for word in words_to("ab", 4):
                    row = row_by_runs(machine, cap, word)
                    self.assertEqual(row_of(machine, cap, word), row)
                    if word:
                        before = row_of(machine, cap, word[:-1])
                        self.assertEqual(row_behind(machine, cap, before, word[-1]), row)
                    found = need(machine, word)
                    ends = [state for state in machine[3] if row[state] is not None]
                    self.assertEqual(ends != [], found is not None and found <= cap)

    def test_rows_to_which_no_word_leads(self):
        self.assertEqual(row_behind(COSTLY, 4, (4, 3, 2), "a"), (1, 3, None))
        self.assertEqual(row_behind(COSTLY, 4, (2, 3, 2), "a"), (1, 3, None))
        self.assertEqual(row_behind(COSTLY, 4, (0, 3, 2), "a"), (1, 2, None))
        self.assertEqual(row_behind(COSTLY, 4, (None, None, None), "a"), (None, None, None))
        self.assertEqual(row_behind(COSTLY, 30, (None, 29, None), "b"), (None, None, 30))
        self.assertEqual(row_behind(COSTLY, 30, (None, 30, None), "b"), (None, None, None))

    def test_restarts_that_cost_more_than_the_cap(self):
        self.assertEqual(row_behind(COSTLY, 2, (None, 0, None), "a"), (None, None, None))
        self.assertEqual(row_behind(COSTLY, 3, (None, 0, None), "a"), (None, 3, None))
        self.assertEqual(row_behind(COSTLY, 0, (0, 0, 0), "a"), (None, None, None))
        self.assertEqual(row_behind(COSTLY, 0, (0, 0, 0), "b"), (None, None, 0))

    def test_caps(self):
        self.assertEqual(row_of(TOTAL, 0, "bb"), (0,))
        self.assertEqual(row_of(TOTAL, 0, "ba"), (None,))
        self.assertEqual(row_of(TOTAL, 30, "a" * 30), (30,))
        self.assertEqual(row_of(TOTAL, 30, "a" * 31), (None,))
        for cap in WRONG + NOTHING + [31, "0", (1,)]:
            with self.assertRaises(errors.InvalidNumber) as caught:
                row_of(TOTAL, cap, None)
            self.assertIs(caught.exception.value, cap)
            with self.assertRaises(errors.InvalidNumber) as caught:
                row_behind(TOTAL, cap, None, None)
            self.assertIs(caught.exception.value, cap)

    def test_wrong_rows(self):
        row = (1, None, 2)
        wrong = [*listed(row), row[:2], row + (0,), (), None, 1, "abc", {0: 0, 1: 1, 2: 2}, (1, None, 3), (1, -1, 2)]
        wrong += [value for bad in WRONG + ["0"] for value in replaced(row, bad)] + WRONG
        for value in wrong:
            self.assertRaises(errors.InvalidRow, row_behind, COSTLY, 2, value, None)
        self.assertEqual(row_behind(COSTLY, 2, row, "b"), (None, None, 0))
        self.assertRaises(errors.InvalidRow, row_behind, COSTLY, 1, row, "b")

    def test_wrong_letters_and_words(self):
        for letter in WRONG + NOTHING + ["", "ab", "c", 0, ("a",)]:
            self.assertRaises(errors.InvalidWord, row_behind, BLOCK, 2, (1,), letter)
        for word in WRONG_WORDS:
            self.assertRaises(errors.InvalidWord, row_of, BLOCK, 2, word)

    def test_wrong_machines(self):
        for machine in [*spoiled(LESS), None]:
            self.assertRaises(errors.InvalidMachine, row_behind, machine, None, None, None)
            self.assertRaises(errors.InvalidMachine, row_of, machine, None, None)

    def test_arguments_stay(self):
        row = (1, 0)
        self.assertEqual(row_behind(LESS, 3, row, "a"), row_behind(LESS, 3, row, "a"))
        self.assertEqual(row, (1, 0))


class NeedsToTests(unittest.TestCase):
    def test_lengths(self):
        self.assertEqual(list(needs_to(BLOCK, 0)), [("", 0)])
        self.assertEqual(list(needs_to(SHUT, 0)), [])
        self.assertEqual(len(list(needs_to(BLOCK, 8))), 2 ** 9 - 1)
        for length in WRONG + NOTHING + [9, "1", (1,)]:
            with self.assertRaises(errors.InvalidNumber) as caught:
                next(needs_to(BLOCK, length))
            self.assertIs(caught.exception.value, length)

    def test_against_all_runs(self):
        for seed in range(150):
            machine = some_machine(seed)
            found = [(word, need_by_runs(machine, word)) for word in words_to("ab", 4)]
            for length in range(5):
                expected = [pair for pair in found if pair[1] is not None and len(pair[0]) <= length]
                self.assertEqual(list(needs_to(machine, length)), expected)

    def test_against_need(self):
        for machine in (BLOCK, TOTAL, MOST, LESS, COSTLY, some_machine(7, most_states=8, most_steps=40)):
            expected = [(word, need(machine, word)) for word in words_to("ab", 8)]
            self.assertEqual(list(needs_to(machine, 8)), [pair for pair in expected if pair[1] is not None])

    def test_words_without_needs_may_begin_words_with_needs(self):
        machine = make_machine("yz", 3, (0, "z", 0, 1, 1), (1, "y", 0, 2, 2), (2, "y", 1, 3, 2), finals=(2,))
        self.assertEqual(list(needs_to(machine, 4)), [("zy", 3), ("zyy", 3), ("zyyy", 3)])

    def test_greatest_needs(self):
        dear = make_machine("a", 1, (0, "a", 0, 3, 0), finals=(0,))
        self.assertEqual(list(needs_to(dear, 8)), [("a" * many, 3 * many) for many in range(9)])

    def test_order(self):
        machine = make_machine("bcz", 1, (0, "z", 0, 0, 0), (0, "b", 0, 1, 0), (0, "c", 1, 1, 0), finals=(0,))
        words = [word for word, _ in needs_to(machine, 3)]
        self.assertEqual(words, words_to("bcz", 3))

    def test_read_in_part_and_again(self):
        some = needs_to(full_machine(), 8)
        self.assertLess(seconds(lambda: next(some)), 0.1 * slowness())
        self.assertEqual(next(some)[0], "a")
        self.assertEqual(next(needs_to(full_machine(), 8)), ("", 0))
        self.assertEqual(next(some)[0], "b")

    def test_errors_come_with_the_first_result(self):
        for machine, length, expected in ((None, 9, errors.InvalidMachine), (BLOCK, 9, errors.InvalidNumber)):
            some = needs_to(machine, length)
            self.assertRaises(expected, next, some)
        for machine in spoiled(LESS):
            self.assertRaises(errors.InvalidMachine, next, needs_to(machine, None))

    def test_time_and_needs_of_a_great_machine(self):
        machine = full_machine()
        self.assertLess(seconds(lambda: list(needs_to(machine, 8))), slowness())
        found = list(needs_to(machine, 8))
        for word, least in found[::997]:
            self.assertEqual(need(machine, word), least)

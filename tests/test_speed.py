"""Many short words in small machines, asked one after another."""

import random
import unittest

from openlimit.machines.needs import best_run, is_run, need, need_of_run, row_behind, row_of
from tests.helper import is_within, some_machine


class SpeedTests(unittest.TestCase):
    def setUp(self):
        draw = random.Random(3)
        self.machines = [some_machine(seed, most_steps=10) for seed in (1, 2, 4, 5, 8, 9)]
        self.words = ["".join(draw.choice("ab") for _ in range(draw.randint(0, 4))) for _ in range(230)]
        self.words += ["".join(draw.choice("ab") for _ in range(draw.randint(5, 30))) for _ in range(10)]
        self.longer = ["".join(draw.choice("ab") for _ in range(draw.randint(0, 10))) for _ in range(95)]

    def ask_for_runs(self):
        for place, word in enumerate(self.words):
            machine = self.machines[place % 6]
            need(machine, word)
            run = best_run(machine, word)
            if run is not None:
                is_run(machine, word, run)
                need_of_run(machine, run)

    def ask_for_rows(self):
        for word in self.longer:
            for machine in self.machines[:5]:
                row_behind(machine, 8, row_of(machine, 8, word), "a")
                need(machine, word)
                best_run(machine, word)

    def test_short_words(self):
        # Measured: 1.3 and 4.4 times the plain work; before needs were found in one go, 3 to 3.7 and 9 to 11 times.
        self.assertTrue(is_within(self.ask_for_runs, 2.7))
        self.assertTrue(is_within(self.ask_for_rows, 8.7))

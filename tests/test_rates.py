"""[9.1]: exchange of limits."""

import unittest

from openlimit import errors
from openlimit.machines.machines import make_machine
from openlimit.machines.needs import need
from openlimit.tables.closures import closure
from openlimit.verdicts.bounds import bound_paper, is_bound_paper, rate
from openlimit.verdicts.rates import Exchange, are_mates, chained, rates
from openlimit.verdicts.verdicts import is_bounded, is_verdict, verdict
from tests.helper import BLOCK, LESS, MOST, NOTHING, TOTAL, WRONG, full_machine, some_machine, spoiled, words_to
from tests.test_bounds import COUNTER, COUNTER_AND_START, EIGHT, THRICE
from tests.test_readers import WRONG_WORDS
from tests.test_verdicts import FREE, NEVER, ONE_MORE, ONLY_A, OTHER

GREAT = full_machine("ab", 0, 20)
# Each a costs two, and a word with a b in front of an a has no need.
DOUBLE = make_machine("ab", 2, (0, "a", 0, 2, 0), (0, "b", 0, 0, 1), (1, "b", 0, 0, 1), finals=(0, 1))


def bounded_pairs(many):
    """Yield pairs of machines of which the first one is bounded by the second one."""
    for seed in range(many):
        first, second = some_machine(seed, most_states=3, most_steps=7), some_machine(seed + 900, most_states=2)
        try:
            if is_bounded(first, second):
                yield first, second
        except errors.TooLarge:
            pass


class RatesTests(unittest.TestCase):
    def test_against_rate(self):
        for first, second in [(BLOCK, TOTAL), (LESS, MOST), (FREE, BLOCK), *bounded_pairs(60)]:
            found = list(rates(first, second, until=4))
            self.assertEqual([row[0] for row in found], list(range(5)))
            before = 0
            for cap, number, word in found:
                self.assertEqual(number, rate(first, second, cap))
                # Rates rise weakly.
                self.assertLessEqual(before, number)
                before = number
                if number == 0:
                    self.assertIsNone(word)
                else:
                    self.assertLessEqual(need(second, word), cap)
                    self.assertEqual(need(first, word), number)
                pairs = bound_paper(first, second, cap)[1]
                self.assertIs(is_bound_paper(first, second, cap, (number, pairs, word)), True)

    def test_until(self):
        self.assertEqual([row[:2] for row in rates(BLOCK, TOTAL)], [(cap, cap) for cap in range(31)])
        self.assertEqual([row[:2] for row in rates(BLOCK, TOTAL, until=0)], [(0, 0)])
        self.assertEqual(len(list(rates(FREE, FREE, until=30))), 31)
        for until in WRONG + NOTHING + [31, "1"]:
            with self.assertRaises(errors.InvalidNumber) as caught:
                next(rates(TOTAL, BLOCK, until=until))
            self.assertIs(caught.exception.value, until)

    def test_read_in_part_and_again(self):
        some = rates(BLOCK, TOTAL)
        self.assertEqual([next(some)[:2], next(some)[:2]], [(0, 0), (1, 1)])
        self.assertEqual(next(rates(BLOCK, TOTAL))[:2], (0, 0))
        self.assertEqual(next(some)[:2], (2, 2))

    def test_errors_come_with_the_first_result(self):
        for wrong in [*spoiled(LESS), None]:
            self.assertRaises(errors.InvalidMachine, next, rates(wrong, None, until=None))
            self.assertRaises(errors.InvalidMachine, next, rates(LESS, wrong, until=None))
        self.assertRaises(errors.InvalidOperation, next, rates(LESS, OTHER, until=None))
        with self.assertRaises(errors.Unlimited) as caught:
            next(rates(TOTAL, BLOCK))
        self.assertIs(is_verdict(TOTAL, BLOCK, caught.exception.paper), True)
        for machines, limit in ((ONE_MORE, 2000), ((GREAT, GREAT), 300)):
            some = rates(*machines)
            with self.assertRaises(errors.TooLarge) as caught:
                next(some)
            self.assertEqual(caught.exception.limit, limit)

    def test_errors_of_triples(self):
        for first, second, many, limit in ((THRICE, TOTAL, 11, 30), (EIGHT, COUNTER, 24, 2000), (EIGHT, COUNTER_AND_START, 23, 2000)):
            some = rates(first, second)
            self.assertEqual([next(some)[0] for _ in range(many)], list(range(many)))
            with self.assertRaises(errors.TooLarge) as caught:
                next(some)
            self.assertEqual(caught.exception.limit, limit)
        self.assertEqual(len(list(rates(THRICE, TOTAL, until=10))), 11)


class DetourTests(unittest.TestCase):
    """Words lead to more pairs of rows for the numbers below the rate than for the rate itself."""

    def setUp(self):
        # States 0 to 5 turn with each d; behind state 7, which costs three, all of them are reached.
        steps = [(i, letter, 0, 0, (i + (letter == "d")) % 6) for i in range(6) for letter in "abcd"]
        steps += [(7, letter, 1, 0, i) for i in range(6) for letter in "abcd"]
        for letter in "abcd":
            steps += [(7, letter, 1, 3, 7), (6, letter, 0, 0, 0), (6, letter, 0, 3, 7)]
        self.first = make_machine("abcd", 8, *steps, starts=(6,), finals=(0, 6, 7))
        loops = [*COUNTER[4], *[(7, letter, 0, 0, 7) for letter in "abc"]]
        self.seconds = [
            make_machine("abcd", 8, *loops, starts=starts, finals=tuple(range(8)))
            for starts in ((0, 1, 6, 7), (0, 1, 6))
        ]

    def test_rates(self):
        some = rates(self.first, self.seconds[0])
        self.assertEqual([next(some) for _ in range(27)], [(cap, 3, "ad") for cap in range(27)])
        with self.assertRaises(errors.TooLarge) as caught:
            next(some)
        self.assertEqual(caught.exception.limit, 2000)
        self.assertEqual(list(rates(self.first, self.seconds[1])), [(cap, 3, "ad") for cap in range(31)])

    def test_exchange(self):
        exchange = Exchange(self.first, self.seconds[0])
        self.assertEqual([exchange.rate_at(2), exchange.rate_at(26), exchange.shown(25)[0]], [3, 3, 3])
        for call in (exchange.rate_at, exchange.shown):
            with self.assertRaises(errors.TooLarge) as caught:
                call(27)
            self.assertEqual(caught.exception.limit, 2000)
        self.assertEqual(exchange.known, {2: 3, 25: 3, 26: 3})


class MatesTests(unittest.TestCase):
    def test_mates(self):
        self.assertEqual([are_mates(BLOCK, TOTAL), are_mates(TOTAL, BLOCK), are_mates(LESS, LESS)], [False, False, True])
        self.assertEqual([are_mates(TOTAL, THRICE), are_mates(THRICE, TOTAL), are_mates(NEVER, NEVER)], [True] * 3)
        self.assertEqual([are_mates(ONLY_A, FREE), are_mates(FREE, ONLY_A)], [False, False])
        for seed in range(60):
            first, second = some_machine(seed, most_states=2, most_steps=5), some_machine(seed + 70, most_states=2)
            try:
                expected = is_bounded(first, second) and is_bounded(second, first)
            except errors.TooLarge:
                continue
            self.assertIs(are_mates(first, second), expected)

    def test_errors(self):
        for wrong in [*spoiled(LESS), None]:
            self.assertRaises(errors.InvalidMachine, are_mates, wrong, None)
            self.assertRaises(errors.InvalidMachine, are_mates, LESS, wrong)
        self.assertRaises(errors.InvalidOperation, are_mates, LESS, OTHER)
        self.assertRaises(errors.TooLarge, are_mates, *ONE_MORE)
        # The second question is asked only if the answer to the first one is yes.
        self.assertIs(are_mates(ONLY_A, GREAT), False)
        self.assertRaises(errors.TooLarge, are_mates, GREAT, ONLY_A)


class ChainTests(unittest.TestCase):
    def test_chains(self):
        self.assertEqual(chained(3, BLOCK, TOTAL), (3, 3))
        self.assertEqual(chained(3, BLOCK, TOTAL, TOTAL), (3, 3, 3))
        self.assertEqual(chained(2, BLOCK, TOTAL, THRICE, TOTAL), (2, 2, 6, 2))
        self.assertEqual(chained(0, THRICE, TOTAL, TOTAL), (0, 0, 0))
        self.assertEqual(chained(10, THRICE, TOTAL), (30, 10))

    def test_rates_can_be_composed(self):
        machines = [some_machine(seed, most_states=2, most_steps=5) for seed in range(16)] + [BLOCK, TOTAL, LESS, MOST, THRICE]
        done = 0
        for first in machines:
            for second in machines:
                for third in machines[::3]:
                    try:
                        numbers = chained(2, first, second, third)
                        direct = rate(first, third, 2)
                    except (errors.TooLarge, errors.Unlimited):
                        continue
                    done += numbers[0] > 0
                    self.assertEqual(numbers, (rate(first, second, numbers[1]), rate(second, third, 2), 2))
                    self.assertLessEqual(direct, numbers[0])
        self.assertGreater(done, 10)

    def test_errors_in_order(self):
        for cap in WRONG + NOTHING + [31, "1"]:
            with self.assertRaises(errors.InvalidNumber) as caught:
                chained(cap)
            self.assertIs(caught.exception.value, cap)
        self.assertRaises(errors.InvalidMachine, chained, 0)
        self.assertRaises(errors.InvalidMachine, chained, 0, LESS)
        self.assertRaises(errors.InvalidMachine, chained, 0, None)
        for wrong in [*spoiled(LESS), None]:
            self.assertRaises(errors.InvalidMachine, chained, 0, wrong, LESS)
            self.assertRaises(errors.InvalidMachine, chained, 0, LESS, OTHER, wrong)
        self.assertRaises(errors.InvalidOperation, chained, 0, TOTAL, BLOCK, OTHER)
        self.assertRaises(errors.InvalidOperation, chained, 0, OTHER, BLOCK, BLOCK)
        self.assertRaises(errors.InvalidOperation, chained, 0, OTHER, TOTAL, BLOCK)

    def test_the_last_two_machines_come_first(self):
        for machines, pair in (((TOTAL, BLOCK, ONLY_A), (BLOCK, ONLY_A)), ((TOTAL, BLOCK, TOTAL), (TOTAL, BLOCK))):
            with self.assertRaises(errors.Unlimited) as caught:
                chained(1, *machines)
            self.assertEqual(caught.exception.paper, verdict(*pair))
        with self.assertRaises(errors.TooLarge) as caught:
            chained(11, GREAT, THRICE, TOTAL)
        self.assertEqual(caught.exception.limit, 30)
        with self.assertRaises(errors.TooLarge) as caught:
            chained(10, GREAT, THRICE, TOTAL)
        self.assertEqual(caught.exception.limit, 300)


class ExchangeTests(unittest.TestCase):
    def check_kept(self, exchange, expected):
        self.assertEqual(exchange.known, expected)
        self.assertEqual(list(exchange.known), sorted(expected))
        self.assertEqual([len(exchange), bool(exchange)], [len(expected), bool(expected)])
        self.assertEqual(str(exchange), f"exchange with {len(expected)} known rates")
        for cap in range(31):
            self.assertIs(cap in exchange, cap in expected)
            if cap in expected:
                self.assertEqual(exchange[cap], expected[cap])
            else:
                with self.assertRaises(errors.InvalidNumber) as caught:
                    exchange[cap]
                self.assertIs(caught.exception.value, cap)

    def test_what_is_kept(self):
        exchange = Exchange(LESS, MOST)
        self.assertEqual([exchange.first, exchange.second], [LESS, MOST])
        self.check_kept(exchange, {})
        self.assertEqual(exchange.rate_at(3), 3)
        self.check_kept(exchange, {3: 3})
        self.assertEqual(exchange.rate_at(3), 3)
        self.assertEqual(exchange("abab"), 2)
        self.check_kept(exchange, {2: 2, 3: 3})
        paper = exchange.shown(1)
        self.assertIs(is_bound_paper(LESS, MOST, 1, paper), True)
        self.assertEqual(exchange.shown(1), paper)
        self.check_kept(exchange, {1: 1, 2: 2, 3: 3})
        self.assertEqual(exchange("aaa"), 0)
        self.check_kept(exchange, {0: 0, 1: 1, 2: 2, 3: 3})

    def test_needs_are_at_most_the_rates(self):
        for first, second in bounded_pairs(80):
            exchange = Exchange(first, second)
            for word in words_to("ab", 4):
                least = need(second, word)
                if least is None:
                    self.assertIsNone(exchange(word))
                else:
                    self.assertGreaterEqual(exchange(word), need(first, word))
                    self.assertEqual(exchange(word), rate(first, second, least))
                    self.assertIn(least, exchange)

    def test_words_without_a_need_and_with_a_great_one(self):
        exchange = Exchange(TOTAL, DOUBLE)
        self.assertIsNone(exchange("ba"))
        self.check_kept(exchange, {})
        self.assertEqual(exchange("aaabb"), 3)
        self.check_kept(exchange, {6: 3})
        self.assertEqual(exchange("a" * 15), 15)
        for word in ("a" * 16, "a" * 200):
            with self.assertRaises(errors.TooLarge) as caught:
                exchange(word)
            self.assertEqual(caught.exception.limit, 30)
        for word in WRONG_WORDS:
            self.assertRaises(errors.InvalidWord, exchange, word)
        self.check_kept(exchange, {6: 3, 30: 15})

    def test_wrong_caps(self):
        exchange = Exchange(LESS, MOST)
        exchange.rate_at(1)
        exchange.rate_at(0)
        for wrong in WRONG + NOTHING + [31, 2, "1", (1,), slice(1)]:
            if wrong != 2:
                for call in (exchange.rate_at, exchange.shown):
                    with self.assertRaises(errors.InvalidNumber) as caught:
                        call(wrong)
                    self.assertIs(caught.exception.value, wrong)
            with self.assertRaises(errors.InvalidNumber) as caught:
                exchange[wrong]
            self.assertIs(caught.exception.value, wrong)
            self.assertIs(wrong in exchange, False)
        self.check_kept(exchange, {0: 0, 1: 1})

    def test_errors_keep_nothing(self):
        exchange = Exchange(THRICE, TOTAL)
        exchange.rate_at(2)
        for call, value in ((exchange.rate_at, 11), (exchange.shown, 30), (exchange, "a" * 11), (exchange, "a" * 31)):
            with self.assertRaises(errors.TooLarge) as caught:
                call(value)
            self.assertEqual(caught.exception.limit, 30)
            self.check_kept(exchange, {2: 6})
        exchange = Exchange(EIGHT, COUNTER)
        for call in (exchange.rate_at, exchange.shown):
            with self.assertRaises(errors.TooLarge) as caught:
                call(24)
            self.assertEqual(caught.exception.limit, 2000)
        self.check_kept(exchange, {})

    def test_known_is_a_copy(self):
        exchange = Exchange(LESS, MOST)
        exchange.rate_at(5)
        known = exchange.known
        known[5] = 0
        known[6] = 1
        self.check_kept(exchange, {5: 5})
        for name in ("first", "second", "known"):
            self.assertRaises(AttributeError, setattr, exchange, name, None)

    def test_then(self):
        one, other = Exchange(BLOCK, TOTAL), Exchange(TOTAL, THRICE)
        one.rate_at(1)
        other.rate_at(3)
        both = one.then(other)
        self.assertIs(both.__class__, Exchange)
        self.assertEqual([both.first, both.second], [BLOCK, THRICE])
        self.check_kept(both, {})
        self.assertEqual(both, Exchange(BLOCK, THRICE))
        self.assertEqual([both.rate_at(7), both("aab")], [2, 2])
        self.check_kept(one, {1: 1})
        self.check_kept(other, {3: 1})
        for wrong in [one, Exchange(LESS, MOST), (TOTAL, THRICE), TOTAL, *WRONG, *NOTHING]:
            self.assertRaises(errors.InvalidOperation, one.then, wrong)
        self.assertEqual(other.then(Exchange(THRICE, TOTAL)), Exchange(TOTAL, TOTAL))

    def test_then_looks_for_no_verdict(self):
        # The states turn by five and by three, and by seven, so the closure of both is too great.
        turns = [(i, "a", 0, 0, (i + 1) % 5) for i in range(5)] + [(i, "b", 0, 0, i) for i in range(5)]
        turns += [(5 + i, "b", 0, 0, 5 + (i + 1) % 3) for i in range(3)] + [(5 + i, "a", 0, 0, 5 + i) for i in range(3)]
        first = make_machine("ab", 8, *turns, starts=(0, 5), finals=tuple(range(8)))
        turns = [(i, "a", 0, 1, (i + 1) % 7) for i in range(7)] + [(i, "b", 0, 0, i) for i in range(7)]
        last = make_machine("ab", 8, *turns, (7, "a", 0, 0, 7), (7, "b", 0, 1, 7), starts=(0, 7), finals=tuple(range(8)))
        for call in (closure, Exchange):
            self.assertRaises(errors.TooLarge, call, first, last)
        both = Exchange(first, FREE).then(Exchange(FREE, last))
        self.assertEqual([both.first, both.second, len(both)], [first, last, 0])
        self.assertEqual([both("abab"), both.rate_at(1), both.known], [0, 0, {1: 0, 2: 0}])

    def test_equality(self):
        one, same = Exchange(LESS, MOST), Exchange(LESS, MOST)
        one.rate_at(2)
        self.assertIs(one == same, True)
        self.assertIs(one != same, False)
        for other in [Exchange(LESS, TOTAL), Exchange(MOST, MOST), (LESS, MOST), *WRONG, *NOTHING]:
            self.assertIs(one == other, False)
            self.assertIs(one != other, True)
        self.assertRaises(TypeError, hash, one)
        for call in (iter, list, tuple, sorted):
            self.assertRaises(TypeError, call, one)

    def test_errors_when_created(self):
        for wrong in [*spoiled(LESS), None]:
            self.assertRaises(errors.InvalidMachine, Exchange, wrong, None)
            self.assertRaises(errors.InvalidMachine, Exchange, LESS, wrong)
        self.assertRaises(errors.InvalidOperation, Exchange, LESS, OTHER)
        for machines, limit in ((ONE_MORE, 2000), ((GREAT, GREAT), 300)):
            with self.assertRaises(errors.TooLarge) as caught:
                Exchange(*machines)
            self.assertEqual(caught.exception.limit, limit)
        for machines in ((TOTAL, BLOCK), (ONLY_A, BLOCK)):
            with self.assertRaises(errors.Unlimited) as caught:
                Exchange(*machines)
            self.assertEqual(caught.exception.paper, verdict(*machines))

    def test_methods_stand_in_the_class(self):
        names = "first second known rate_at shown then __call__ __getitem__ __iter__ __contains__ __len__ __bool__ __str__ __eq__"
        self.assertEqual(set(names.split()) - set(vars(Exchange)), set())

"""[3.1]: readers."""

import random
import unittest

from openlimit import errors
from openlimit.machines.machines import make_machine
from openlimit.machines.needs import need, row_of
from openlimit.machines.readers import LimitedReader, Reader
from tests.helper import (
    BLOCK, LESS, NOTHING, TOTAL, WRONG, full_machine, seconds, slowness, some_machine, spoiled, words_to,
)

WRONG_WORDS = [None, True, 0, -1, 10 ** 39, "c", "aB", "a ", "a\n", "\n", (), ("a",), ["a"], [], {}, "a" * 201, [[[]]]]
SHUT = make_machine("ab", 1, *BLOCK[4])
# The first state pays, and only a b leads to the final; a c restarts with a cost.
STEEP = make_machine(
    "abc", 3, (0, "a", 0, 1, 0), (0, "b", 0, 2, 1), (1, "c", 1, 3, 2), (2, "a", 0, 0, 2), (2, "b", 0, 3, 2), finals=(2,)
)


def can_be_continued(machine, bound, word):
    """Return whether some rows behind the word, found one after another, have an entry at a final."""
    rows = [row_of(machine, bound, word)]
    for row in rows:
        if any(row[final] is not None for final in machine[3]):
            return True
        for letter in machine[0]:
            after = [None] * machine[1]
            for state, sign, restart, cost, goal in machine[4]:
                if sign == letter and row[state] is not None:
                    count = (0 if restart else row[state]) + cost
                    if count <= bound and (after[goal] is None or count < after[goal]):
                        after[goal] = count
            if tuple(after) not in rows:
                rows.append(tuple(after))
    return False


class ReaderCase(unittest.TestCase):
    def check_tells(self, reader, machine, word):
        """Check all that the reader tells of its word."""
        least = need(machine, word)
        self.assertEqual((reader.machine, reader.word, reader.need), (machine, word, least))
        self.assertEqual(len(reader), len(word))
        self.assertIs(bool(reader), least is not None)
        told = "no need" if least is None else f"need {least}"
        self.assertEqual(str(reader), f'reader at "{word}", {told}')
        beginnings = [need(machine, word[:many]) for many in range(len(word) + 1)]
        self.assertEqual(list(reader.needs()), beginnings)
        self.assertEqual([reader[many] for many in range(len(word) + 1)], beginnings)
        for cap in (0, 1, 2, 3, 7, 30):
            self.assertEqual(reader.row(cap), row_of(machine, cap, word))
        for further in ("", machine[0][0], machine[0][-1] * 2, machine[0]):
            if len(word + further) <= 200:
                self.assertEqual(reader(further), need(machine, word + further))
        self.assertTrue(reader == Reader(machine, word))
        self.assertTrue(Reader(machine, word) == reader)
        self.assertEqual(reader.word, word)

    def check_unchanged(self, reader, error, call, *values):
        before = (reader.word, reader.need, list(reader.needs()), reader.row(30), str(reader))
        with self.assertRaises(error) as caught:
            call(*values)
        self.assertIs(caught.exception.__class__, error)
        self.assertEqual((reader.word, reader.need, list(reader.needs()), reader.row(30), str(reader)), before)
        return caught.exception


class ReaderTests(ReaderCase):
    def test_new_readers(self):
        for machine in (BLOCK, TOTAL, LESS, SHUT, some_machine(3), some_machine(8)):
            for word in words_to("ab", 4):
                self.check_tells(Reader(machine, word), machine, word)
            self.check_tells(Reader(machine), machine, "")
            self.check_tells(Reader(machine, word="ab"), machine, "ab")
        self.assertEqual(Reader.LONGEST, 200)
        self.assertEqual(LimitedReader.LONGEST, 200)

    def test_all_caps(self):
        for seed in range(30):
            machine = some_machine(seed, most_steps=14)
            for word in ("", "ab", "aabab", "abbabbaab"):
                reader = Reader(machine, word)
                self.assertEqual([reader.row(cap) for cap in range(31)], [row_of(machine, cap, word) for cap in range(31)])

    def test_long_mixed_rows_of_calls(self):
        for seed in range(25):
            draw = random.Random(seed)
            machine = some_machine(seed, most_steps=12)
            reader, word = Reader(machine), ""
            for _ in range(40):
                word = self.some_call(draw, reader, word)
                self.assertEqual(reader.need, need(machine, word))
                if draw.random() < 0.3:
                    self.check_tells(reader, machine, word)
            self.check_tells(reader, machine, word)

    def some_call(self, draw, reader, word):
        """Do something with the reader, and return the word that it has then."""
        parts = ["".join(draw.choice("ab") for _ in range(draw.randint(0, 5))) for _ in range(draw.randint(0, 3))]
        kind = draw.randrange(6)
        if kind == 0 and len(word) < 150:
            found = word + "".join(parts)
            self.assertEqual(reader.take(*parts), need(reader.machine, found))
        elif kind == 1:
            many = draw.randint(0, len(word))
            found = word[:len(word) - many]
            self.assertEqual(reader.back(many), need(reader.machine, found))
        elif kind == 2:
            found = "".join(parts)
            self.assertEqual(reader.put(found), need(reader.machine, found))
        elif kind == 3:
            found = "".join(parts)
            reader.word = found
        elif kind == 4:
            found = word
            other = reader + "ab"
            other.take("b")
            self.assertEqual(other.word, word + "abb")
        else:
            found = word
            other = reader.branch()
            other.put("ba")
            self.assertEqual(other.need, need(reader.machine, "ba"))
        return found

    def test_take(self):
        reader = Reader(BLOCK, "a")
        self.assertEqual(reader.take(), 1)
        self.assertEqual(reader.take(""), 1)
        self.assertEqual(reader.take("a", "", "ba"), 2)
        self.assertEqual(reader.word, "aaba")
        for wrong in WRONG_WORDS:
            self.check_unchanged(reader, errors.InvalidWord, reader.take, wrong)
            self.check_unchanged(reader, errors.InvalidWord, reader.take, "a", "bb", wrong)
            # Each word is looked at before the length of all of them.
            self.check_unchanged(reader, errors.InvalidWord, reader.take, "a" * 200, wrong)

    def test_too_long(self):
        reader = Reader(BLOCK, "ab" * 50)
        for words in (("a" * 101,), ("a" * 100, "b"), ("a",) * 101, ("a" * 200,)):
            self.assertEqual(self.check_unchanged(reader, errors.TooLarge, reader.take, *words).limit, 200)
        self.assertEqual(self.check_unchanged(reader, errors.TooLarge, reader, "a" * 101).limit, 200)
        self.assertEqual(self.check_unchanged(reader, errors.TooLarge, reader.__add__, "a" * 101).limit, 200)
        self.assertEqual(reader("a" * 100), 100)
        self.assertEqual(len(reader + "a" * 100), 200)
        self.assertEqual(reader.take("a" * 99, "a"), 100)
        self.check_tells(reader, BLOCK, "ab" * 50 + "a" * 100)
        self.check_unchanged(reader, errors.TooLarge, reader.take, "b")
        self.assertEqual(reader.take(""), 100)

    def test_back(self):
        reader = Reader(BLOCK, "aabaaa")
        self.assertEqual([reader.back(), reader.back(0), reader.back(many=2), reader.word], [2, 2, 2, "aab"])
        for many in WRONG + NOTHING + ["1", 4, (1,)]:
            self.assertIs(self.check_unchanged(reader, errors.InvalidNumber, reader.back, many).value, many)
        self.assertEqual([reader.back(3), reader.word], [0, ""])
        self.assertIs(self.check_unchanged(reader, errors.InvalidNumber, reader.back).value, 1)
        self.assertEqual(reader.back(0), 0)

    def test_items(self):
        reader = Reader(LESS, "aabb")
        self.assertEqual([reader[0], reader[2], reader[4]], [0, 0, 2])
        for at in WRONG + NOTHING + [5, "0", slice(0, 1), (0,)]:
            self.assertIs(self.check_unchanged(reader, errors.InvalidNumber, reader.__getitem__, at).value, at)

    def test_calls(self):
        reader = Reader(BLOCK, "aa")
        self.assertEqual([reader(""), reader("a"), reader("ba"), reader.word], [2, 3, 2, "aa"])
        for word in WRONG_WORDS:
            self.check_unchanged(reader, errors.InvalidWord, reader, word)
            self.check_unchanged(reader, errors.InvalidWord, reader.__add__, word)
            self.check_unchanged(reader, errors.InvalidWord, reader.put, word)
            self.check_unchanged(reader, errors.InvalidWord, setattr, reader, "word", word)
        for cap in WRONG + NOTHING + [31, "1"]:
            self.assertIs(self.check_unchanged(reader, errors.InvalidNumber, reader.row, cap).value, cap)

    def test_no_need(self):
        reader = Reader(SHUT, "ab")
        self.assertEqual([reader.need, bool(reader), str(reader)], [None, False, 'reader at "ab", no need'])
        self.assertEqual([reader("a"), reader.take("a"), reader[0], list(reader.needs())], [None, None, None, [None] * 4])
        self.assertTrue(Reader(BLOCK))
        self.assertEqual(str(Reader(SHUT)), 'reader at "", no need')

    def test_no_iteration(self):
        for reader in (Reader(BLOCK, "ab"), LimitedReader(BLOCK, 3, "ab")):
            for call in (iter, list, tuple, set, sorted, lambda value: 0 in value, lambda value: [*value]):
                self.assertRaises(TypeError, call, reader)
            self.assertRaises(TypeError, hash, reader)

    def test_needs(self):
        reader = Reader(BLOCK, "aab")
        some = reader.needs()
        self.assertEqual(next(some), 0)
        reader.put("b")
        self.assertEqual(list(some), [1, 2, 2])
        some = reader.needs()
        reader.take("aaa")
        # The word counts that it has when the first result is asked for.
        self.assertEqual([next(some), next(some), next(some)], [0, 0, 1])
        reader.back(5 - 1)
        self.assertEqual(list(some), [2, 3])
        self.assertEqual(list(reader.needs()), [0])

    def test_properties_are_not_assigned(self):
        reader = Reader(BLOCK, "a")
        for name in ("machine", "need"):
            self.assertRaises(AttributeError, setattr, reader, name, None)
        self.assertRaises(AttributeError, setattr, LimitedReader(BLOCK, 2), "bound", 1)

    def test_independent(self):
        for reader in (Reader(BLOCK, "aa"), LimitedReader(BLOCK, 5, "aa")):
            for other in (reader.branch(), reader + ""):
                self.assertIs(other.__class__, reader.__class__)
                self.assertEqual(other, reader)
                other.take("ba")
                self.check_tells(reader, BLOCK, "aa")
                reader.back()
                self.check_tells(other, BLOCK, "aaba")
                reader.put("aa")
            longer = reader + "ab"
            self.check_tells(longer, BLOCK, "aaab")
            self.check_tells(reader, BLOCK, "aa")

    def test_equality(self):
        same = [Reader(BLOCK, "ab"), LimitedReader(BLOCK, 1, "ab"), LimitedReader(BLOCK, 30, "ab"), Reader(BLOCK, "a") + "b"]
        for one in same:
            for other in same:
                self.assertIs(one == other, True)
                self.assertIs(one != other, False)
        others = [Reader(TOTAL, "ab"), Reader(BLOCK, "aa"), Reader(BLOCK), LimitedReader(TOTAL, 1, "ab"), "ab", None, 2]
        for one in same:
            for other in others + WRONG + [(BLOCK, "ab"), BLOCK]:
                self.assertIs(one == other, False)
                self.assertIs(one != other, True)

    def test_errors(self):
        for machine in [*spoiled(LESS), None, "ab"]:
            self.assertRaises(errors.InvalidMachine, Reader, machine, None)
            self.assertRaises(errors.InvalidMachine, LimitedReader, machine, None, None)
        for word in WRONG_WORDS:
            self.assertRaises(errors.InvalidWord, Reader, BLOCK, word)
            self.assertRaises(errors.InvalidWord, LimitedReader, BLOCK, 0, word)

    def test_methods_stand_in_the_classes(self):
        names = "word put take back branch __init__ __call__ __add__"
        rest = "machine need needs row __getitem__ __iter__ __len__ __bool__ __str__ __eq__"
        self.assertEqual(set(f"{names} {rest}".split()) - set(vars(Reader)), set())
        self.assertEqual(set(f"{names} bound".split()) - set(vars(LimitedReader)), set())
        self.assertTrue(issubclass(LimitedReader, Reader))

    def test_time(self):
        machine = full_machine("a")
        slow = make_machine(
            "a", 8, *[(i, "a", 0, cost, i) for i in range(8) for cost in (1, 2, 3)],
            *[(i, "a", 1, 0, j) for i in range(8) for j in range(i + 1, 8)], finals=(7,)
        )
        for one in (machine, slow):
            reader = Reader(one, "a" * 199)
            reader.take("a")
            self.assertEqual(reader.need, need(one, "a" * 200))
            self.assertLess(seconds(lambda: Reader(one, "a" * 200)), slowness())


class LimitedReaderTests(ReaderCase):
    def test_bounds(self):
        for bound in (0, 1, 30):
            self.assertEqual(LimitedReader(BLOCK, bound).bound, bound)
        for bound in WRONG + NOTHING + [31, "1", (1,)]:
            with self.assertRaises(errors.InvalidNumber) as caught:
                LimitedReader(BLOCK, bound, None)
            self.assertIs(caught.exception.value, bound)
        self.assertEqual(LimitedReader(BLOCK, 30, "a" * 30).need, 30)
        self.assertRaises(errors.InvalidOperation, LimitedReader, BLOCK, 30, "a" * 31)
        self.assertRaises(errors.InvalidOperation, LimitedReader, BLOCK, 0, "a")
        self.assertEqual(LimitedReader(BLOCK, bound=0, word="bb").need, 0)

    def test_words_that_can_be_continued(self):
        # Not finished, the word has no need at all; finished with a c, it has one of 3.
        reader = LimitedReader(STEEP, 3, "b")
        self.assertEqual([reader.need, reader.take("c"), reader.take("a")], [None, 3, 3])
        self.check_unchanged(reader, errors.InvalidOperation, reader.take, "b")
        self.assertRaises(errors.InvalidOperation, LimitedReader, STEEP, 2, "b")
        self.assertRaises(errors.InvalidOperation, LimitedReader, STEEP, 2)
        self.assertEqual(LimitedReader(STEEP, 3, "a").need, None)
        self.assertRaises(errors.InvalidOperation, LimitedReader, STEEP, 3, "aa")
        self.assertEqual(LimitedReader(STEEP, 4, "aa").need, None)

    def test_needs_above_the_bound_are_not_excused(self):
        # "a" alone is accepted with the need 2; but a run that goes on stays at 0.
        machine = make_machine("ab", 3, (0, "a", 0, 2, 1), (0, "a", 0, 0, 2), (2, "b", 0, 0, 1), finals=(1,))
        reader = LimitedReader(machine, 1, "a")
        self.assertEqual([reader.need, reader.row(1), reader.take("b")], [2, (None, None, 0), 0])
        self.assertRaises(errors.InvalidOperation, reader.take, "b")

    def test_machines_without_useful_states(self):
        for machine in (SHUT, ("ab", 8, (), (0,), ()), ("ab", 2, (0,), (1,), ((0, "a", 0, 0, 0),))):
            self.assertRaises(errors.InvalidOperation, LimitedReader, machine, 30)
            self.assertRaises(errors.InvalidNumber, LimitedReader, machine, 31)
            self.assertRaises(errors.InvalidWord, LimitedReader, machine, 30, "c")

    def test_against_a_search(self):
        for seed in range(250):
            machine = some_machine(seed, most_steps=12)
            for bound in (0, 1, 3, 6):
                for word in words_to("ab", 2) + ["aba", "abba", "aabab"]:
                    if can_be_continued(machine, bound, word):
                        self.assertEqual(LimitedReader(machine, bound, word).word, word)
                    else:
                        self.assertRaises(errors.InvalidOperation, LimitedReader, machine, bound, word)

    def test_changes(self):
        for seed in range(120):
            draw = random.Random(seed)
            machine = some_machine(seed, most_steps=12)
            bound = draw.choice((1, 3, 5))
            if not can_be_continued(machine, bound, ""):
                continue
            reader, word = LimitedReader(machine, bound), ""
            for _ in range(25):
                word = self.some_change(draw, reader, word)
                self.assertEqual((reader.word, reader.bound), (word, bound))
            self.check_tells(reader, machine, word)

    def some_change(self, draw, reader, word):
        part = "".join(draw.choice("ab") for _ in range(draw.randint(0, 3)))
        kind = draw.randrange(5)
        if kind == 0:
            many = draw.randint(0, len(word))
            self.assertEqual(reader.back(many), need(reader.machine, word[:len(word) - many]))
            return word[:len(word) - many]
        whole = word + part if kind in (1, 2) else part
        calls = (None, reader.take, reader.__add__, reader.put, lambda value: setattr(reader, "word", value))
        if len(whole) > 190:
            return word
        if not can_be_continued(reader.machine, reader.bound, whole):
            self.check_unchanged(reader, errors.InvalidOperation, calls[kind], part)
            return word
        result = calls[kind](part)
        if kind == 2:
            self.assertEqual((result.word, result.bound, result.__class__), (whole, reader.bound, LimitedReader))
            self.check_tells(result, reader.machine, whole)
            return word
        self.assertEqual(reader.need, need(reader.machine, whole))
        return whole

    def test_calls_and_back_beyond_the_bound(self):
        reader = LimitedReader(BLOCK, 2, "aab")
        self.assertEqual([reader("aaa"), reader(""), reader("b" * 197), reader.word], [3, 2, 2, "aab"])
        self.assertEqual(self.check_unchanged(reader, errors.TooLarge, reader, "b" * 198).limit, 200)
        self.assertEqual([reader.back(), reader.back(2), reader.back(0)], [2, 0, 0])
        self.assertIs(self.check_unchanged(reader, errors.InvalidNumber, reader.back, 1).value, 1)

    def test_errors_in_order(self):
        reader = LimitedReader(BLOCK, 2, "aab")
        for call in (reader.put, reader.take, reader.__add__, reader):
            for word in WRONG_WORDS:
                self.check_unchanged(reader, errors.InvalidWord, call, word)
        self.check_unchanged(reader, errors.InvalidWord, reader.take, "aaa", "c")
        # Too long goes ahead of too great a need.
        self.check_unchanged(reader, errors.TooLarge, reader.take, "a" * 198)
        self.check_unchanged(reader, errors.TooLarge, reader.__add__, "a" * 198)
        self.check_unchanged(reader, errors.InvalidOperation, reader.take, "a" * 197)
        self.check_unchanged(reader, errors.InvalidOperation, reader.__add__, "aaa")
        self.check_unchanged(reader, errors.InvalidOperation, reader.put, "aaa")
        self.check_unchanged(reader, errors.InvalidOperation, setattr, reader, "word", "baaa")
        self.assertEqual([reader.put("b" * 200), reader.need], [0, 0])

    def test_branches_keep_the_bound(self):
        reader = LimitedReader(BLOCK, 2, "aa")
        for other in (reader.branch(), reader + "", reader + "b"):
            self.assertEqual((other.bound, other.__class__), (2, LimitedReader))
            self.assertRaises(errors.InvalidOperation, other.put, "aaa")
        self.assertEqual(reader.branch().take("b"), 2)
        self.assertEqual(reader.word, "aa")

import itertools
import random
import unittest

from openlimit.errors import (
    InvalidNumber, InvalidOperation, InvalidPattern, InvalidWord, ParseError, TooLarge,
)
from openlimit.patterns.patterns import (
    MAX_DEPTH, MAX_NODES, MAX_PLACES, Either, Empty, Letter, Pattern, Series, Star, Upto,
)
from tests.helper import (
    NO_PATTERNS, NOTHING, WRONG, least_seconds, matches_with, need_by_numbers, slowness, some_patterns, words_to,
)

A, B, C, D, E = [Letter(sign) for sign in "abcde"]
SIGNS = "ab()|*{n}c \nAZ+"


def many_nodes(many):
    """Return a pattern of seven levels and so many empty patterns and their series, an odd number."""
    parts = [Empty()] * (many // 2 + 1)
    while len(parts) > 1:
        parts = [Series(*parts[at:at + 2]) if at + 1 < len(parts) else parts[at] for at in range(0, len(parts), 2)]
    return parts[0]


def levels(pattern, depth):
    """Return the pattern beneath so many stars."""
    for _ in range(depth):
        pattern = Star(pattern)
    return pattern


def is_text(text):
    """Return whether this is the text of a pattern within the bounds, told without the classes."""
    done = []
    at = 0
    # Each entry of the list: places, patterns, levels, letters, and whether there is a limit; or an open sign.
    while at < len(text):
        if text[at:at + 2] == "()":
            done.append((0, 1, 1, set(), False))
            at += 2
            continue
        sign = text[at]
        if sign in "(|":
            done.append(sign)
        elif sign in "abcdefghijklmnopqrstuvwxyz":
            done.append((1, 1, 1, {sign}, False))
        elif sign == "*" or text[at:at + 3] == "{n}":
            if not done or isinstance(done[-1], str):
                return False
            places, nodes, depth, letters, limit = done.pop()
            if sign == "{" and limit:
                return False
            done.append((places, nodes + 1, depth + 1, letters, limit or sign == "{"))
            at += 0 if sign == "*" else 2
        elif sign == ")":
            parts = []
            while done and done[-1] != "(":
                parts.append(done.pop())
            if not done or len(parts) not in (2, 3) or (len(parts) == 3) != ("|" in parts):
                return False
            if len(parts) == 3 and parts.pop(1) != "|" or "|" in parts:
                return False
            done.pop()
            one, two = parts
            done.append((
                one[0] + two[0], one[1] + two[1] + 1, max(one[2], two[2]) + 1, one[3] | two[3], one[4] or two[4],
            ))
        else:
            return False
        at += 1
    if len(done) != 1 or isinstance(done[0], str):
        return False
    places, nodes, depth, letters, _ = done[0]
    return places <= 7 and nodes <= 40 and depth <= 10 and len(letters) <= 4


class PatternTests(unittest.TestCase):
    def test_constants(self):
        self.assertEqual([MAX_PLACES, MAX_NODES, MAX_DEPTH], [7, 40, 10])

    def test_texts_and_operators(self):
        made = Star(Series(Upto(Either(A, Empty())), Star(B)))
        self.assertEqual(made, ~((A | Empty()).upto() + ~B))
        self.assertEqual(str(made), "((a|()){n}b*)*")
        self.assertEqual([len(made), made.places, made.letters, made.is_open], [8, 2, "ab", True])
        self.assertEqual([str(part) for part in made.pieces], ["((a|()){n}b*)"])
        self.assertEqual(made.pieces[0].pieces, ((A | Empty()).upto(), ~B))
        self.assertEqual([A.pieces, Empty().pieces, str(Empty()), Empty().letters], [(), (), "()", ""])
        self.assertEqual([Empty().places, len(Empty()), Empty().is_open, A.places], [0, 1, False, 1])
        self.assertEqual(str(B + (A | B) + A), "((b(a|b))a)")
        self.assertEqual((C + A + B + A).letters, "abc")
        self.assertEqual([(Letter("z") + A).letters, (Letter("z") + A).places, Letter("z")("z")], ["az", 2, 0])
        self.assertEqual((C + A + B + A).places, 4)

    def test_kinds(self):
        kinds = [Letter("a"), Empty(), A + B, A | B, ~A, A.upto()]
        for pattern, kind in zip(kinds, (Letter, Empty, Series, Either, Star, Upto)):
            self.assertIs(type(pattern), kind)
            self.assertIsInstance(pattern, Pattern)
            self.assertIs(type(pattern.is_open), bool)
            self.assertIs(type(len(pattern)), int)
            self.assertIs(type(pattern.pieces), tuple)
            self.assertRaises(TypeError, hash, pattern)
            self.assertRaises(TypeError, iter, pattern)
            for name in ("letters", "places", "is_open", "pieces"):
                self.assertRaises(AttributeError, setattr, pattern, name, "b")

    def test_equality(self):
        patterns = some_patterns(1, 60)
        for one, other in itertools.product(patterns, repeat=2):
            self.assertEqual(one == other, str(one) == str(other))
            self.assertEqual(one != other, str(one) != str(other))
        for wrong in WRONG + NOTHING + ["a", ("a",)]:
            self.assertIs(A == wrong, False)
            self.assertIs(wrong == A, False)
        self.assertNotEqual((A + B) + A, A + (B + A))

    def test_patterns_stay_as_they_are(self):
        part = A.upto() + B
        before = (str(part), len(part), part("aab"), part.pieces)
        ~part | part + part
        Series(part, C)(("a"))
        self.assertEqual(before, (str(part), len(part), part("aab"), part.pieces))

    def test_reading_of_texts(self):
        for pattern in some_patterns(2, 200, 6, "abcd"):
            again = Pattern.read(str(pattern))
            self.assertEqual(again, pattern)
            self.assertIs(type(again), type(pattern))
            self.assertEqual([len(again), again.places, again.letters], [len(pattern), pattern.places, pattern.letters])
            self.assertEqual([again.is_open, again.pieces], [pattern.is_open, pattern.pieces])
        self.assertEqual(Letter.read("a*"), ~A)

    def check_text(self, text):
        if is_text(text):
            self.assertEqual(str(Pattern.read(text)), text)
        else:
            self.assertRaises(ParseError, Pattern.read, text)

    def test_spoiled_texts(self):
        for pattern in some_patterns(3, 40) + [A + B, ~A, Empty(), A.upto()]:
            text = str(pattern)
            for at in range(len(text) + 1):
                self.check_text(text[:at] + text[at + 1:])
                for sign in SIGNS:
                    self.check_text(text[:at] + sign + text[at:])
                    self.check_text(text[:at] + sign + text[at + 1:])
        for wrong in WRONG + NOTHING + [A, "", "ab", "(a)", "(a|b|a)", "(|a)", "()()", "a{m}", "a{n", "()a"]:
            self.assertRaises(ParseError, Pattern.read, wrong)
        for wrong in ("(" * 5000, "a" + "*" * 5000, "a" * 121, "(" * 60 + "a" + "b)" * 60):
            self.assertRaises(ParseError, Pattern.read, wrong)


class BoundTests(unittest.TestCase):
    def check_raises(self, error, value, call, *arguments):
        with self.assertRaises(error) as caught:
            call(*arguments)
        if value is not None:
            self.assertEqual(caught.exception.limit, value)

    def test_wrong_pieces(self):
        for wrong in NO_PATTERNS:
            if wrong != "a":
                self.assertRaises(InvalidPattern, Letter, wrong)
            self.assertRaises(InvalidPattern, Star, wrong)
            self.assertRaises(InvalidPattern, Upto, wrong)
            for kind in (Series, Either):
                self.assertRaises(InvalidPattern, kind, wrong, A)
                self.assertRaises(InvalidPattern, kind, A, wrong)
            self.assertRaises(InvalidPattern, lambda: A + wrong)
            self.assertRaises(InvalidPattern, lambda: A | wrong)
        for wrong in ("", "ab", "A", "1", " ", A, Empty()):
            self.assertRaises(InvalidPattern, Letter, wrong)

    def test_places(self):
        seven = (A + B) + (A + B) + (A + B) + A
        self.assertEqual([seven.places, Pattern.read(str(seven)) == seven], [7, True])
        for other in (A, B, ~A, A.upto()):
            for kind in (Series, Either):
                self.check_raises(TooLarge, 7, kind, seven, other)
                self.check_raises(TooLarge, 7, kind, other, seven)
            self.check_raises(TooLarge, 7, lambda: seven + other)
            self.check_raises(TooLarge, 7, lambda: seven | other)
        self.assertEqual((seven + Empty()).places, 7)
        self.assertRaises(ParseError, Pattern.read, f"({seven}a)")

    def test_nodes(self):
        nodes = many_nodes(39)
        self.assertEqual([len(nodes), len(~nodes), len(Pattern.read(str(~nodes)))], [39, 40, 40])
        for kind in (Star, Upto):
            self.check_raises(TooLarge, 40, kind, ~nodes)
        for kind in (Series, Either):
            self.check_raises(TooLarge, 40, kind, nodes, A)
        self.check_raises(TooLarge, 40, lambda: ~(~nodes))
        self.check_raises(TooLarge, 40, lambda: nodes | nodes)
        self.check_raises(TooLarge, 40, (~nodes).upto)
        self.assertEqual(len(many_nodes(37) + ~A), 40)
        self.assertRaises(ParseError, Pattern.read, f"({nodes}())")

    def test_depth(self):
        ten = levels(A, 9)
        self.assertEqual(str(Pattern.read(str(ten))), "a*********")
        for kind in (Star, Upto):
            self.check_raises(TooLarge, 10, kind, ten)
        for kind in (Series, Either):
            self.check_raises(TooLarge, 10, kind, A, ten)
            self.check_raises(TooLarge, 10, kind, ten, A)
        self.check_raises(TooLarge, 10, lambda: ~ten)
        self.check_raises(TooLarge, 10, ten.upto)
        self.assertEqual(len(levels(A, 8) + levels(B, 8)), 19)
        nested = A
        for _ in range(9):
            nested = Series(nested, Empty())
        self.assertEqual(str(Pattern.read(str(nested))), "(" * 9 + "a" + "())" * 9)
        self.check_raises(TooLarge, 10, lambda: nested + Empty())
        self.assertRaises(ParseError, Pattern.read, f"({nested}())")
        self.assertRaises(ParseError, Pattern.read, str(ten) + "*")

    def test_letters(self):
        four = A + B + C + D
        self.assertEqual(four.letters, "abcd")
        for kind in (Series, Either):
            self.assertRaises(InvalidOperation, kind, four, E)
            self.assertRaises(InvalidOperation, kind, E, four)
        self.assertRaises(InvalidOperation, lambda: four + E)
        self.assertRaises(InvalidOperation, lambda: four | E)
        self.assertRaises(ParseError, Pattern.read, f"({four}e)")

    def test_limits_within_limits(self):
        for pattern in (A.upto(), ~A.upto(), B + A.upto(), B | (B + ~A.upto()), levels(A.upto(), 8)):
            self.assertRaises(InvalidOperation, Upto, pattern)
            self.assertRaises(InvalidOperation, pattern.upto)
            self.assertRaises(ParseError, Pattern.read, str(pattern) + "{n}")
        self.assertEqual(str(A.upto() + A.upto()), "(a{n}a{n})")

    def test_order_of_errors(self):
        seven = A + B + C + D + (A + B) + A
        deep = levels(A, 9)
        nodes = many_nodes(37) + A
        # More than four letters go ahead of places, these ahead of the number of patterns, and this ahead of levels.
        self.assertRaises(InvalidOperation, Series, seven, E)
        self.check_raises(TooLarge, 7, Series, seven, nodes)
        self.check_raises(TooLarge, 7, Series, seven, deep)
        self.check_raises(TooLarge, 40, Series, nodes, deep)
        self.check_raises(TooLarge, 10, Series, seven, levels(Empty(), 9))
        self.assertRaises(InvalidOperation, Upto, levels(A.upto(), 8))
        self.assertRaises(InvalidPattern, Series, seven, "a")
        self.assertRaises(InvalidPattern, Either, None, seven)


class NeedTests(unittest.TestCase):
    def test_needs_number_by_number(self):
        words = words_to("ab", 4)
        for pattern in some_patterns(4, 250) + some_patterns(5, 100, 6):
            for word in words:
                least = need_by_numbers(pattern, word)
                self.assertEqual(pattern(word), least, (str(pattern), word))
                for number in range(6):
                    self.assertIs(pattern.at(number, word), matches_with(pattern, number, word), (str(pattern), word))

    def test_longer_texts(self):
        draw = random.Random(6)
        for pattern in some_patterns(7, 60):
            for _ in range(6):
                word = "".join(draw.choice("aab") for _ in range(draw.randint(5, 14)))
                self.assertEqual(pattern(word), need_by_numbers(pattern, word), (str(pattern), word))

    def test_long_texts(self):
        block = ~(A.upto() + B) + A.upto()
        self.assertEqual([block("a" * 200), block("a" * 99 + "b" + "a" * 100), block("b" * 200)], [200, 100, 0])
        self.assertEqual([(A + A | A).upto()("a" * 199), (~A).upto()("a" * 200), (A | Empty()).upto()("aa")], [100, 1, 2])
        self.assertEqual([A.upto()(""), A.upto()("a" * 15), A.upto()("a" * 16), A.upto()("a" * 17)], [0, 15, 16, 17])
        self.assertEqual([(A.upto() + A.upto())("a" * 11), (~A.upto())("a" * 200), (~(A + B).upto())("ab" * 99)], [6, 1, 1])

    def test_neighbours(self):
        self.assertEqual(Upto(Empty())(""), 0)
        self.assertEqual([Upto(~A)(""), Upto(~A)("aaa"), Upto(Star(Star(A)))("aaa"), Star(Upto(A))("aaa")], [0, 1, 1, 1])
        self.assertEqual([Star(Empty())(""), Star(Empty())("a"), Upto(A + Empty() | Empty())("aaa")], [0, None, 3])
        self.assertEqual([(A.upto() + B.upto())("aaabb"), (A.upto() | B.upto())("bb"), (A.upto() | B)("b")], [3, 2, 0])

    def test_other_letters(self):
        self.assertEqual([A("c"), A("ac"), Empty()("a"), (A | B)("ba"), (~(A | B))("abz")], [None] * 5)
        self.assertIs((~A).at(5, "ab"), False)
        self.assertIs(Empty().at(10 ** 39, ""), True)
        self.assertIs(Empty().at(10 ** 39, "z"), False)

    def test_numbers(self):
        p = ~(A.upto() + B) + A.upto()
        self.assertEqual([p.at(0, ""), p.at(0, "b"), p.at(0, "a"), p.at(2, "aab"), p.at(1, "aab")],
                         [True, True, False, True, False])
        self.assertIs(p.at(10 ** 39, "aab"), True)

    def test_errors(self):
        p = ~A
        for wrong in WRONG + NOTHING + ["a" * 201, "aB", "a b", ("a",)]:
            self.assertRaises(InvalidWord, p, wrong)
            self.assertRaises(InvalidWord, p.at, 0, wrong)
        for wrong in [True, False, None, -1, -(10 ** 39), "1", (), [0], {}]:
            with self.assertRaises(InvalidNumber) as caught:
                p.at(wrong, "A")
            self.assertIs(caught.exception.value, wrong)
        self.assertEqual(p("a" * 200), 0)

    def test_calls_are_fast(self):
        pattern = ~(A.upto() + B) + A.upto()
        limit = 0.15 * slowness()
        self.assertLess(least_seconds(lambda: [pattern("aabaaab") for _ in range(2000)]), limit)
        self.assertLess(least_seconds(lambda: [~(A.upto() + B) for _ in range(2000)]), limit)


if __name__ == "__main__":
    unittest.main()

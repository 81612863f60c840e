import random
import unittest

from openlimit.errors import InvalidOperation, InvalidPattern, LimitError, TooLarge, UnknownName
from openlimit.patterns.compiled import machine_of
from openlimit.patterns.patterns import Either, Empty, Letter, Pattern, Series, Star, Upto
from openlimit.patterns.rewriting import EXACT, ROUGH, after, rewrites, rewritten, tidied
from openlimit.verdicts.rates import are_mates
from tests.helper import NO_PATTERNS, NOTHING, WRONG, least_seconds, slowness, some_patterns, words_to

A, B, C = [Letter(sign) for sign in "abc"]
E = Empty()
read = Pattern.read
# From and to, with P, Q and R for any patterns, as the document writes them.
TABLE = {
    "turn": ("(P|Q)", "(Q|P)"), "regroup": ("((P|Q)|R)", "(P|(Q|R))"), "rejoin": ("((PQ)R)", "(P(QR))"),
    "once": ("(P|P)", "P"), "dropfirst": ("(()P)", "P"), "droplast": ("(P())", "P"),
    "spread": ("(P(Q|R))", "((PQ)|(PR))"), "spreadlast": ("((P|Q)R)", "((PR)|(QR))"),
    "stars": ("P**", "P*"), "starempty": ("(()|P)*", "P*"), "unfold": ("P*", "(()|(PP*))"),
    "starboth": ("(P|Q)*", "(P*Q*)*"), "nostar": ("()*", "()"), "nolimit": ("(){n}", "()"),
    "limitempty": ("(()|P){n}", "P{n}"), "emptylimit": ("(()|P{n})", "P{n}"),
    "loosen": ("P{n}*", "P*"), "absorb": ("P*{n}", "P*"), "double": ("(P{n}P{n})", "P{n}"), "pairs": ("((PP)|P){n}", "P{n}"),
}
TIDY = ("once", "dropfirst", "droplast", "stars", "starempty", "nostar", "nolimit", "limitempty", "emptylimit")
BEYOND = (LimitError, TooLarge)


def filled(side, parts):
    """Return the pattern of the side of a rule with these parts for P, Q and R."""
    text = side
    for sign, part in zip("PQR", parts):
        text = text.replace(sign, str(part))
    return read(text)


def paths_of(pattern):
    """Return all paths, ascending, each with the pattern there."""
    found = [((), pattern)]
    for index, part in enumerate(pattern.pieces):
        found += [((index, *path), inner) for path, inner in paths_of(part)]
    return sorted(found, key=lambda pair: pair[0])


def forms_of(side, text):
    """Return the texts for P, Q and R with which the side is this text, or None, told by trying all texts of its parts."""
    parts = sorted({str(part) for _, part in paths_of(read(text))}, key=len)
    found = [{}]
    for sign in "PQR":
        if sign in side:
            found = [{**known, sign: part} for known in found for part in parts]
    for known in found:
        made = side
        for sign, part in known.items():
            made = made.replace(sign, part)
        if made == text:
            return known
    return None


def exchanged(pattern, path, part):
    if path == ():
        return part
    pieces = list(pattern.pieces)
    pieces[path[0]] = exchanged(pieces[path[0]], path[1:], part)
    return type(pattern)(*pieces)


def by_table(pattern, rule, path, back=False):
    """Return what the table says, a pattern or None (where the rule does not apply), or raise an error."""
    before, behind = TABLE[rule][::-1] if back else TABLE[rule]
    known = forms_of(before, str(dict(paths_by_text(pattern))[path]))
    if known is None:
        return None
    made = behind
    for sign, part in known.items():
        made = made.replace(sign, part)
    return exchanged(pattern, path, build(made))


def build(text):
    """Return the pattern with this text, by the classes, which raise their errors."""
    try:
        return read(text)
    except LimitError:
        raise TooLarge(0) from None


def paths_by_text(pattern):
    return [(path, str(part)) for path, part in paths_of(pattern)]


class RuleTests(unittest.TestCase):
    def test_constants(self):
        self.assertEqual([list(EXACT), list(ROUGH)], [sorted(EXACT), ["absorb", "double", "loosen", "pairs"]])
        self.assertEqual(sorted(EXACT + ROUGH), sorted(TABLE))
        self.assertEqual(len(EXACT), 16)

    def test_each_rule(self):
        trios = [(A, B, C), (A + B, ~A, B), (E, A, E), (A, A, A), (~A, E, B | A)]
        for rule, (before, behind) in TABLE.items():
            for trio in trios:
                old, new = filled(before, trio), filled(behind, trio)
                self.assertEqual(rewritten(old, rule, ()), new, rule)
                self.assertEqual(rewritten(new, rule, (), back=True), old, rule)
                self.assertEqual(rewritten(old, rule, (), back=False), new, rule)
                for around, path in ((lambda p: ~p, (0,)), (lambda p: B | ~p, (1, 0)), (lambda p: p + A, (0,))):
                    self.assertEqual(rewritten(around(old), rule, path), around(new), rule)
                    self.assertEqual(rewritten(around(new), rule, path, back=True), around(old), rule)

    def test_unlike_parts(self):
        wrong = {
            "once": "(a|b)", "dropfirst": "(a())", "droplast": "(()a)", "spread": "(a(bc))", "spreadlast": "((ab)c)",
            "stars": "a*{n}", "starempty": "(a|())*", "unfold": "a{n}", "starboth": "(ab)*", "nostar": "a*", "nolimit": "()*",
            "limitempty": "(a|()){n}", "emptylimit": "(()|a*)", "loosen": "a**", "absorb": "a{n}*", "double": "(a{n}b{n})",
            "pairs": "((ab)|a){n}", "turn": "(ab)", "regroup": "(a|(b|c))", "rejoin": "(a(bc))",
        }
        for rule, text in wrong.items():
            self.assertRaises(InvalidOperation, rewritten, read(text), rule, ())
        for text in ("((aa)|b){n}", "(a|(aa)){n}", "((aa)|a)*"):
            self.assertRaises(InvalidOperation, rewritten, read(text), "pairs", ())
        back = {
            "unfold": ("(()|(ab*))", "((aa*)|())", "(()|(a*a))"), "starboth": ("(a*b)*", "(a*b*)", "(a*b*){n}"),
            "spread": ("((ab)|(cb))", "((ab)(ab))"), "spreadlast": ("((ab)|(ac))",), "nostar": ("a", "()*"),
            "stars": ("a{n}",), "nolimit": ("a",), "regroup": ("((a|b)|c)",), "rejoin": ("((ab)c)",), "turn": ("a",),
        }
        for rule, texts in back.items():
            for text in texts:
                self.assertRaises(InvalidOperation, rewritten, read(text), rule, (), back=True)

    def test_every_place(self):
        for pattern in some_patterns(20, 60, 4):
            for path, part in paths_by_text(pattern):
                for rule in TABLE:
                    for back in (False, True):
                        before = TABLE[rule][1 if back else 0]
                        if forms_of(before, part) is None:
                            self.assertRaises(InvalidOperation, rewritten, pattern, rule, path, back=back)
                            continue
                        try:
                            told = by_table(pattern, rule, path, back)
                        except BEYOND:
                            self.assertRaises(BEYOND, rewritten, pattern, rule, path, back=back)
                        else:
                            self.assertEqual(rewritten(pattern, rule, path, back=back), told)

    def test_needs_stay(self):
        words = words_to("ab", 5)
        for pattern in some_patterns(21, 120, 5):
            for rule, _, result in rewrites(pattern):
                self.assertEqual([pattern(word) for word in words], [result(word) for word in words], (str(pattern), rule))

    def test_rough_rules_keep_texts_and_mates(self):
        words = words_to("ab", 5)
        seen = set()
        for pattern in some_patterns(22, 400, 4) + [read(text) for text in ("((aa)|a){n}", "(((bb)|b){n}a)*", "b*{n}")]:
            for rule, _, result in rewrites(pattern, rough=True):
                if rule not in ROUGH:
                    continue
                seen.add(rule)
                self.assertEqual([pattern(word) is None for word in words], [result(word) is None for word in words])
                self.assertTrue(are_mates(machine_of(pattern, "ab"), machine_of(result, "ab")), (str(pattern), rule))
        self.assertEqual(sorted(seen), list(ROUGH))


class ErrorTests(unittest.TestCase):
    def test_wrong_values(self):
        p = ~(A | B)
        for wrong in NO_PATTERNS:
            self.assertRaises(InvalidPattern, rewritten, wrong, None, None, back=None)
            self.assertRaises(InvalidPattern, list, rewrites(wrong, rough=None))
            self.assertRaises(InvalidPattern, tidied, wrong)
            self.assertRaises(InvalidPattern, after, wrong, None)
        for wrong in WRONG + NOTHING + ["", "Turn", "turn ", ("turn",), ["turn"], 0, A]:
            with self.assertRaises(UnknownName) as caught:
                rewritten(p, wrong, None, back=None)
            self.assertIs(caught.exception.name, wrong)
        paths = [(True,), (False,), [0], [], (1,), (2,), (-1,), (0, 2), (0, -1), (0, 0, 0), 0, None, "", ("0",), ((),), (10 ** 39,)]
        for wrong in paths + WRONG:
            self.assertRaises(InvalidOperation, rewritten, p, "turn", wrong)
        for wrong in (0, 1, None, "", (), "True", 2, [], {}):
            self.assertRaises(InvalidOperation, rewritten, p, "turn", (0,), back=wrong)
            self.assertRaises(InvalidOperation, next, rewrites(p, rough=wrong))
        self.assertEqual(str(rewritten(p, "turn", (0,))), "(b|a)*")

    def check_limit(self, limit, pattern, rule, path=(), back=False):
        with self.assertRaises(TooLarge) as caught:
            rewritten(pattern, rule, path, back=back)
        self.assertEqual(caught.exception.limit, limit)

    def test_beyond_bounds(self):
        four = (A + B) + (A + B)
        self.check_limit(7, ~four, "unfold")
        self.check_limit(7, four, "once", back=True)
        self.check_limit(7, four + (A | (B | C)), "spread")
        deep = A
        for _ in range(9):
            deep = ~deep
        self.check_limit(10, deep, "starempty", (0, 0), back=True)
        self.check_limit(10, deep, "stars", back=True)
        self.check_limit(10, deep, "dropfirst", back=True)
        wide = Empty()
        for _ in range(4):
            wide = wide + wide
        self.check_limit(40, wide, "once", back=True)
        self.check_limit(40, ~wide, "unfold")
        self.assertRaises(InvalidOperation, rewritten, ~A.upto(), "loosen", (), back=True)
        self.assertRaises(InvalidOperation, rewritten, (~A).upto(), "absorb", (0,), back=True)
        self.assertRaises(InvalidOperation, rewritten, (A + E).upto(), "nolimit", (0, 1), back=True)

    def test_without_what_would_raise(self):
        four = (A + B) + (A + B)
        self.assertEqual([row[0] for row in rewrites(~four)], ["rejoin"])
        self.assertEqual([(rule, path) for rule, path, _ in rewrites(four + (A | B))], [("rejoin", ()), ("rejoin", (0,)), ("turn", (1,))])


class OrderTests(unittest.TestCase):
    def test_order(self):
        for pattern in some_patterns(23, 80, 5):
            for rough in (False, True):
                found = list(rewrites(pattern, rough=rough))
                names = sorted(EXACT + ROUGH) if rough else EXACT
                told = []
                for path, part in paths_by_text(pattern):
                    for rule in names:
                        if forms_of(TABLE[rule][0], part) is not None:
                            try:
                                told.append((rule, path, by_table(pattern, rule, path)))
                            except BEYOND:
                                pass
                self.assertEqual(found, told)
                self.assertEqual(found, list(rewrites(pattern, rough=rough)))
                if not rough:
                    self.assertEqual(found, list(rewrites(pattern)))

    def test_in_part(self):
        stream = rewrites(~(A | B))
        self.assertEqual(next(stream)[:2], ("starboth", ()))
        other = rewrites(~(A | B), rough=True)
        self.assertEqual([row[:2] for row in other], [("starboth", ()), ("unfold", ()), ("turn", (0,))])
        self.assertEqual(next(stream)[:2], ("unfold", ()))
        self.assertEqual([row[0] for row in rewrites(~A.upto(), rough=True)], ["loosen", "unfold"])
        self.assertEqual(list(rewrites(A)), [])

    def test_tidied(self):
        for pattern in some_patterns(24, 150, 5):
            told = pattern
            while True:
                further = [row for row in rewrites(told) if row[0] in TIDY]
                if not further:
                    break
                told = further[0][2]
            self.assertEqual(tidied(pattern), told)
        self.assertEqual(tidied(A), A)
        self.assertEqual(str(tidied(read("(()|(()|a){n})"))), "a{n}")
        self.assertEqual(str(tidied(read("((()|())(){n})"))), "()")
        self.assertEqual(str(tidied(read("((a|b)|(b|a))"))), "((a|b)|(b|a))")

    def test_after(self):
        p = ~A.upto()
        steps = [("loosen", (), False), ("unfold", (), False), ("turn", (), False), ("turn", (), True), ("unfold", (), True)]
        self.assertEqual([str(after(p, *steps[:many])) for many in range(6)], [
            "a{n}*", "a*", "(()|(aa*))", "((aa*)|())", "(()|(aa*))", "a*",
        ])
        wrong_steps = [wrong for wrong in WRONG if not isinstance(wrong, tuple) or len(wrong) != 3]
        for wrong in wrong_steps + ["turn", ("turn",), ("turn", ()), ["turn", (), False], ("turn", (), False, 0), None]:
            self.assertRaises(InvalidOperation, after, p, steps[0], wrong, ("none", (), False))
        # The first step that cannot be done counts, whatever comes behind it.
        with self.assertRaises(UnknownName) as caught:
            after(p, steps[0], ("none", None, None), None)
        self.assertEqual(caught.exception.name, "none")
        self.assertRaises(InvalidOperation, after, p, ("turn", (), False), ("none", (), False))
        self.assertRaises(InvalidOperation, after, p, ("loosen", (), 0))
        self.assertRaises(TooLarge, after, (A + B) + (A + B), ("once", (), True), None)

    def test_calls_are_fast(self):
        p = ~((A | B).upto() + B)
        limit = 0.25 * slowness()
        self.assertLess(least_seconds(lambda: [list(rewrites(p)) for _ in range(200)]), limit)
        self.assertLess(least_seconds(lambda: [tidied(p) for _ in range(500)]), limit)


if __name__ == "__main__":
    unittest.main()

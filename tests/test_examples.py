"""The examples of the document, word for word."""

import doctest
import unittest

from openlimit.desk import desk
from openlimit.machines import machines, needs, operations, readers
from openlimit.patterns import compiled, patterns, rewriting
from openlimit.tables import closures, grades, recipes, written
from openlimit.text import formats, shell
from openlimit.verdicts import bounds, pieces, rates, verdicts

MODULES = (
    machines, needs, readers, grades, recipes, written, closures, verdicts, bounds, rates, patterns, compiled, pieces,
    operations, rewriting, desk, formats, shell,
)
VALUES = '''
>>> BLOCK = make_machine("ab", 1, (0, "a", 0, 1, 0), (0, "b", 1, 0, 0), finals=(0,))
>>> TOTAL = make_machine("ab", 1, (0, "a", 0, 1, 0), (0, "b", 0, 0, 0), finals=(0,))
>>> MOST = make_machine("ab", 1, (0, "a", 0, 0, 0), (0, "b", 0, 1, 0), finals=(0,))
>>> LESS = make_machine("ab", 2, (0, "a", 0, 1, 0), (0, "b", 0, 0, 0), (1, "a", 0, 0, 1), (1, "b", 0, 1, 1), starts=(0, 1), finals=(0, 1))
'''

MACHINES = '''
>>> [is_machine(BLOCK), BLOCK[4], machine_from("ab", 1, BLOCK[4][::-1], (0, 0), (0,)) == BLOCK]
[True, ((0, 'a', 0, 1, 0), (0, 'b', 1, 0, 0)), True]
>>> [list(steps_from(LESS, 1)), is_meter(TOTAL), is_meter(BLOCK), is_plain(TOTAL)]
[[(2, (1, 'a', 0, 0, 1)), (3, (1, 'b', 0, 1, 1))], True, False, False]
>>> wide = make_machine("a", 3, (0, "a", 0, 2, 2), (0, "a", 1, 0, 2), (0, "a", 0, 0, 1), finals=(2,))
>>> [trimmed(wide)[1:], plain_of(wide)[4]]
[(2, (0,), (1,), ((0, 'a', 0, 2, 1), (0, 'a', 1, 0, 1))), ((0, 'a', 0, 0, 1), (0, 'a', 0, 0, 2))]
'''

NEEDS = '''
>>> [is_run(BLOCK, "ab", (0, (0, 1))), counts_on(BLOCK, (0, (0, 0, 1, 0))), need_of_run(BLOCK, (0, (0, 0, 1, 0)))]
[True, (0, 1, 2, 0, 1), 2]
>>> [need(BLOCK, "aabaaab"), need(TOTAL, "aabaaab"), need(LESS, "aabaaab"), best_run(LESS, "abb"), need(wide, "aa")]
[3, 5, 2, (0, (0, 1, 1)), None]
>>> [first_row(LESS), row_of(LESS, 1, "aab"), row_behind(BLOCK, 2, (2,), "a")]
[(0, 0), (None, 1), (None,)]
>>> list(needs_to(BLOCK, 1))
[('', 0), ('a', 1), ('b', 0)]
'''

READERS = '''
>>> reader = Reader(BLOCK, "aab")
>>> [reader.need, reader.take("a", "aa"), reader("a"), reader.back(2), reader[2], list(reader.needs()), str(reader)]
[2, 3, 4, 2, 2, [0, 1, 2, 2, 2], 'reader at "aaba", need 2']
>>> strict = LimitedReader(BLOCK, 2, "aab")
>>> [strict.take("aa"), strict.bound, strict.word]
[2, 2, 'aabaa']
>>> strict.take("a")
Traceback (most recent call last):
    ...
openlimit.errors.InvalidOperation: the word cannot be continued within the bound
'''

TABLES = '''
>>> [choice("paid", "restart", "none"), sequence("restart", "paid"), sequence("paid", "dear"), choice(), sequence()]
['restart', 'restart', 'dear', 'none', 'free']
>>> [table_of(LESS, "a"), value_of(LESS, table_of(LESS, "a")), pumped(table_of(LESS, "a"))]
[(('paid', 'none'), ('none', 'free')), 'free', (('dear', 'none'), ('none', 'free'))]
>>> ab = product(pumped(table_of(LESS, "a")), pumped(table_of(LESS, "b")))
>>> [ab, value_of(LESS, ab), pumped((("paid", "restart"), ("none", "paid")))]
[(('dear', 'none'), ('none', 'dear')), 'dear', (('dear', 'dear'), ('none', 'dear'))]
>>> both = then_recipe(pump_recipe(word_recipe("a")), pump_recipe(word_recipe("b")))
>>> both
(('letter', 'a'), ('pump', 0), ('letter', 'b'), ('pump', 2), ('then', 1, 3))
>>> word_recipe("aba")
(('letter', 'a'), ('letter', 'b'), ('then', 0, 1), ('letter', 'a'), ('then', 2, 3))
>>> [fits(both, LESS, BLOCK), tables_in(both, LESS, BLOCK), ceiling(both, LESS)]
[True, ((('dear', 'none'), ('none', 'dear')), (('dear',),)), 4]
>>> many = (("word", "aab"), ("times", 0, 10 ** 18))
>>> [length_of(many), price_of(TOTAL, many), row_of_written(BLOCK, 2, many), price_of(LESS, written_of(both, 5, 2))]
[3000000000000000000, 2000000000000000000, (0,), 18]
'''

VERDICTS = '''
>>> [closure(TOTAL), len(closure(LESS)), len(closure(LESS, BLOCK))]
[(((('dear',),),), ((('free',),),), ((('paid',),),)), 8, 9]
>>> [verdict(TOTAL, BLOCK)[0], verdict(BLOCK, TOTAL)[0], is_bounded(LESS, MOST), is_bounded(MOST, LESS)]
['grows', 'closed', True, False]
>>> [is_verdict(TOTAL, BLOCK, ("grows", pump_recipe(word_recipe("ab")))), is_verdict(LESS, BLOCK, ("grows", both))]
[True, False]
>>> none = make_machine("ab", 1, (0, "a", 0, 0, 0), finals=(0,))
>>> [verdict(none, BLOCK), is_verdict(none, BLOCK, ("never", "ab"))]
[('never', 'b'), True]
>>> [rate(BLOCK, TOTAL, 4), rate(LESS, MOST, 2), rate(TOTAL, TOTAL, 3)]
[4, 2, 3]
>>> is_bound_paper(LESS, MOST, 0, (0, (((0,), (0, 0)), ((0,), (None, 0)), ((None,), (0, None)), ((None,), (None, None))), None))
True
>>> rate(TOTAL, BLOCK, 0)
Traceback (most recent call last):
    ...
openlimit.errors.Unlimited: ('grows', (('letter', 'a'), ('letter', 'b'), ('then', 0, 1), ('pump', 2)))
>>> [row[:2] for row in rates(BLOCK, TOTAL, until=2)]
[(0, 0), (1, 1), (2, 2)]
>>> [are_mates(BLOCK, TOTAL), are_mates(LESS, LESS), chained(3, BLOCK, TOTAL, TOTAL)]
[False, True, (3, 3, 3)]
>>> exchange = Exchange(BLOCK, TOTAL)
>>> [exchange.rate_at(2), exchange("aab"), exchange("bb"), exchange.known, exchange[0], 1 in exchange, str(exchange)]
[2, 2, 0, {0: 0, 2: 2}, 0, False, 'exchange with 2 known rates']
'''

PATTERNS = '''
>>> a, b = Letter("a"), Letter("b")
>>> p = ~(a.upto() + b) + a.upto()
>>> [str(p), p("aabaaab"), p("c"), p.at(2, "aabaaab"), len(p), p.places, Pattern.read("((a{n}b)*a{n})") == p]
['((a{n}b)*a{n})', 3, None, False, 8, 3, True]
>>> machine_of(a.upto(), "ab")[1:]
(2, (0,), (0, 1), ((0, 'a', 1, 1, 1), (1, 'a', 0, 1, 1)))
>>> [pattern_rate((a + a | a).upto(), a.upto(), 5), pattern_verdict(a.upto() + b, ~a + b)[0], pattern_verdict(~a, ~(a.upto() + b))]
[3, 'grows', ('never', 'b')]
>>> SHORT = make_machine("a", 3, (0, "a", 0, 0, 1), (1, "a", 0, 0, 2), finals=(1, 2))
>>> [best_cutting(SHORT, "aaaa"), need(piece_machine(SHORT), "aaa"), power_paper(SHORT)[0], power_paper(plain_of(TOTAL))[1][0]]
[(2, 4), 2, 'grows', 1]
>>> [need(either(TOTAL, MOST), "aab"), need(followed(TOTAL, MOST), "aabbb"), need(added(MOST, TOTAL), "bbaab")]
[1, 2, 2]
>>> [need(iterated(SHORT), "aaa"), need(renamed(BLOCK, {"a": "a", "b": "a"}), "aaa"), need(scaled(BLOCK, 2), "aab")]
[0, 0, 4]
'''

DESKS = '''
>>> [str(q) for rule, path, q in rewrites(~(a | b))]
['(a*b*)*', '(()|((a|b)(a|b)*))', '(b|a)*']
>>> [str(tidied(~~(Empty() | a + Empty()))), str(after(~a.upto(), ("loosen", (), False), ("unfold", (), False)))]
['a*', '(()|(aa*))']
>>> desk = Desk("ab")
>>> [desk.apply(("set", "p", ~(a.upto() + b)), ("set", "q", ~a + ~b)), desk.apply(("promise", "q", "p", 1, 0)), desk.status(0)]
[1, 2, ('never', 'bab')]
>>> [desk.apply(("set", "q", ~(a | b))), desk.status(0), desk.undo(), str(desk), desk("p", "aabab")]
[3, ('kept', 0), 2, 'desk of ab: 2 patterns, 1 promises', 2]
>>> [machine_text(BLOCK), recipe_text(pump_recipe(word_recipe("a"))), edit_text(("set", "p", ~(a | b)))]
['machine ab 1 starts 0 finals 0\\n0 a +1 0\\n0 b =0 0', 'letter a\\npump 0', 'set p (a|b)*']
>>> shell = Shell()
>>> shell.run_all("desk ab", "edit set p (a{n}b)*; set q (a|b)*; promise q p 2 0", "status 0", "need p aabab", "rate p q 0", "list")
('ok', 'ok', 'kept 0', '2', 'never a', 'p = (a{n}b)*; q = (a|b)*; q p 2 0')
'''


class ExampleTests(unittest.TestCase):
    def test_examples(self):
        text = VALUES + MACHINES + NEEDS + READERS + TABLES + VERDICTS + PATTERNS + DESKS
        names = {}
        for module in MODULES:
            names.update(vars(module))
        test = doctest.DocTestParser().get_doctest(text, names, "DOC.md", None, 0)
        told = []
        results = doctest.DocTestRunner().run(test, out=told.append)
        self.assertEqual((results.failed, results.attempted), (0, len(test.examples)), "".join(told))
        self.assertEqual(results.attempted, 56)

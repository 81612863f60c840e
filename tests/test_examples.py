"""The examples of the document, word for word."""

import doctest
import unittest

from openlimit.machines import machines, needs

VALUES = '''
>>> BLOCK = make_machine("ab", 1, (0, "a", 0, 1, 0), (0, "b", 1, 0, 0), finals=(0,))
>>> TOTAL = make_machine("ab", 1, (0, "a", 0, 1, 0), (0, "b", 0, 0, 0), finals=(0,))
>>> MOST = make_machine("ab", 1, (0, "a", 0, 0, 0), (0, "b", 0, 1, 0), finals=(0,))
>>> LESS = make_machine("ab", 2, (0, "a", 0, 1, 0), (0, "b", 0, 0, 0), (1, "a", 0, 0, 1), (1, "b", 0, 1, 1), starts=(0, 1), finals=(0, 1))
'''

MACHINES = '''
>>> [is_machine(BLOCK), BLOCK[4], machine_from("ab", 1, BLOCK[4][::-1], (0, 0), (0,)) == BLOCK]
[True, ((0, 'a', 0, 1, 0), (0, 'b', 1, 0, 0)), True]
>>> [list(steps_from(LESS, 1)), is_meter(TOTAL), is_meter(BLOCK), is_plain(TOTAL)]
[[(2, (1, 'a', 0, 0, 1)), (3, (1, 'b', 0, 1, 1))], True, False, False]
>>> wide = make_machine("a", 3, (0, "a", 0, 2, 2), (0, "a", 1, 0, 2), (0, "a", 0, 0, 1), finals=(2,))
>>> [trimmed(wide)[1:], plain_of(wide)[4]]
[(2, (0,), (1,), ((0, 'a', 0, 2, 1), (0, 'a', 1, 0, 1))), ((0, 'a', 0, 0, 1), (0, 'a', 0, 0, 2))]
'''

NEEDS = '''
>>> [is_run(BLOCK, "ab", (0, (0, 1))), counts_on(BLOCK, (0, (0, 0, 1, 0))), need_of_run(BLOCK, (0, (0, 0, 1, 0)))]
[True, (0, 1, 2, 0, 1), 2]
>>> [need(BLOCK, "aabaaab"), need(TOTAL, "aabaaab"), need(LESS, "aabaaab"), best_run(LESS, "abb"), need(wide, "aa")]
[3, 5, 2, (0, (0, 1, 1)), None]
>>> [first_row(LESS), row_of(LESS, 1, "aab"), row_behind(BLOCK, 2, (2,), "a")]
[(0, 0), (None, 1), (None,)]
>>> list(needs_to(BLOCK, 1))
[('', 0), ('a', 1), ('b', 0)]
'''


class ExampleTests(unittest.TestCase):
    def test_examples(self):
        text = VALUES + MACHINES + NEEDS
        names = {**vars(machines), **vars(needs)}
        test = doctest.DocTestParser().get_doctest(text, names, "DOC.md", None, 0)
        told = []
        results = doctest.DocTestRunner().run(test, out=told.append)
        self.assertEqual((results.failed, results.attempted), (0, len(test.examples)), "".join(told))
        self.assertEqual(results.attempted, 12)

"""How calls are handed in and answers given back."""

import builtins
import contextlib
import io
import unittest
from unittest import mock

from helper import (NINE, area, clear, depth, extent, flat, forget, gap, halves, hull, join, layers, least, mean,
                    meet, overlap, run, see, seen, shift, told, turn, where, widest)
from homeranges.ranges import answers

MIXED = (seen(0, NINE) + seen(1, NINE[:4]) + [see(0, 1, 1), forget(0, 3), told(0), join(1, 1, 2),
         shift(1, 7, -7), shift(0, 1000, 0), turn(2), hull(2), area(1), where(0, 2, 5), depth(0, 3, 15),
         layers(0), least(0, 3), extent(2, -3, 4), widest(1), halves(0, 0, 0, 1, 1), mean(2), overlap(0, 1),
         overlap(0, 0), meet(0, 1), gap(0, 2), clear(0), told(0), see(9, 9, 9), told(3), mean(0), gap(0, 1),
         halves(1, 2, 2, 2, 2)])


class Untouched(list):
    """A list that fails as soon as it's changed."""

    def fail(self, *anything, **named):
        raise AssertionError("what was handed in was changed")

    __setitem__ = __delitem__ = __iadd__ = __imul__ = fail
    append = extend = insert = pop = remove = clear = sort = reverse = fail


class Interface(unittest.TestCase):
    def test_examples(self):
        given = run([see(0, 0, 0), see(0, 4, 0), see(0, 0, 3), see(0, 1, 1), hull(0), area(0),
                     depth(0, 1, 1), layers(0), least(0, 1), see(1, 2, 2), where(0, 2, 2), gap(0, 1)])
        self.assertEqual(given, [[1], [2], [3], [4], [3, 0, 0, 4, 0, 0, 3], [12, 8, 3], [2], [4, 1, 1, 1, 2],
                                 [3, 1], [1], [0], [4, 25]])

    def test_each_answer_has_its_length_before_it(self):
        given = answers([0, 0, -3, 5, 2, 0, 2, 7, 7, 0, 8, 0, 9, 0, -3, 5, 1, 0, 0, 3, 0, 4, 0, 1, 2, 5, 0, 1, 1, 6, 0])
        self.assertEqual(given, [1, 1, 3, 1, -3, 5, 1, -1, 3, 1, -3, 5, 3, 0, 1, 0, 1, 2, 1, 0, 1, 0, 1, 0, 1, 0, 1, 0])

    def test_counts_of_calls_10_to_19(self):
        given = answers([0, 0, -3, 5, 10, 0, -3, 5, 11, 0, 12, 0, 1, 13, 0, 2, 1, 14, 0, 15, 0, 1, 2, 3, 4, 16, 0,
                         17, 0, 0, 18, 0, 0, 19, 0, 0])
        self.assertEqual(given, [1, 1, 1, 1, 2, 1, 1, 2, 0, 0, 3, 0, -1, 0, 1, -5, 3, 1, 0, 0, 5, 0, -3, 1, 5, 1,
                                 2, 0, 1, 1, 1, 2, 0, 1])

    def test_any_call_may_be_first(self):
        firsts = [see(0, 1, 1), forget(0, 0), told(0), clear(0), join(0, 1, 2), shift(0, 1, 1), turn(0),
                  hull(0), area(0), where(0, 1, 1), depth(0, 1, 1), layers(0), least(0, 0), least(0, 1),
                  extent(0, 1, 1), widest(0), halves(0, 1, 1, 2, 2), mean(0), overlap(0, 1), meet(0, 1), gap(0, 1)]
        expected = [[1], [-1], [0], [0], [0], [0], [0], [0], [0, 0, 0], [0], [0], [0], [0], [-5],
                    [-5], [-5], [0, 0, 0], [-5], [0, 1], [0], [-5]]
        self.assertEqual([run([call]) for call in firsts], [[row] for row in expected])

    def test_whole_numbers_in_a_list(self):
        given = answers(flat(MIXED))
        self.assertIs(type(given), list)
        self.assertEqual({type(number) for number in given}, {int})

    def test_what_is_handed_in_stays_as_it_is(self):
        handed = flat(MIXED)
        before = list(handed)
        given = answers(handed)
        self.assertEqual(handed, before)
        self.assertEqual(answers(Untouched(handed)), given)

    def test_nothing_is_kept_between_two_runs(self):
        handed = flat(MIXED)
        first = answers(handed)
        kept = list(first)
        answers(flat(seen(3, NINE)))
        self.assertEqual(answers(handed), kept)
        first.clear()
        self.assertEqual(answers(handed), kept)
        self.assertEqual(run([told(a) for a in range(4)]), [[0]] * 4)

    def test_prints_reads_and_imports_nothing(self):
        handed = flat(MIXED)
        out = io.StringIO()
        with contextlib.redirect_stdout(out), contextlib.redirect_stderr(out):
            with mock.patch.object(builtins, "open", side_effect=AssertionError), \
                    mock.patch.object(builtins, "input", side_effect=AssertionError), \
                    mock.patch.object(builtins, "__import__", side_effect=AssertionError):
                answers(handed)
        self.assertEqual(out.getvalue(), "")


class LongLists(unittest.TestCase):
    def test_400_calls(self):
        rows = seen(0, NINE) + [see(0, k, k) for k in range(390)] + [told(0)]
        given = run(rows)
        self.assertEqual(len(given), 400)
        self.assertEqual(given[:9], [[k] for k in range(1, 10)])
        self.assertEqual(given[9:399], [[-3]] * 390)
        self.assertEqual(given[399], [9] + [number for place in NINE for number in place])

    def test_400_longest_answers(self):
        given = run(seen(0, NINE) + [hull(0), told(0)] * 195 + [hull(0)])
        self.assertEqual(len(given), 400)
        self.assertEqual({len(row) for row in given[9:]}, {19})

    def test_2400_numbers(self):
        rows = [halves(0, k, -k, k + 1, 1000) for k in range(400)]
        self.assertEqual(len(flat(rows)), 2400)
        self.assertEqual(run(rows), [[0, 0, 0]] * 400)

    def test_400_calls_of_all_twenty_kinds(self):
        square = [(0, 0), (4, 0), (4, 4), (0, 4)]
        begin = seen(0, NINE) + seen(1, square)
        block = [told(1), hull(1), area(1), where(1, 2, 4), depth(1, 2, 2), layers(1), least(1, 1), extent(1, -1, -2),
                 widest(1), halves(1, 0, 0, 1, 1), mean(1), overlap(1, 1), meet(0, 1), gap(1, 2),
                 see(2, 1, 0), join(2, 2, 3), turn(3), forget(3, 0), shift(3, 1, 1), clear(2)]
        expected = [[4, 0, 0, 4, 0, 4, 4, 0, 4], [4, 0, 0, 4, 0, 4, 4, 0, 4], [32, 16, 9], [2], [2], [4, 1, 1, 1, 1],
                    [16, 0], [0, 0, 0], [32, 0, 2], [1, 2, 1], [0, 2, 1, 2, 1], [32, 1], [1], [-5],
                    [1], [2], [0], [1], [0], [1]]
        rows = begin + block * 19 + [halves(0, 0, 0, 0, 1)] * 7
        self.assertEqual(len(rows), 400)
        self.assertLessEqual(len(flat(rows)), 2400)
        self.assertEqual({row[0] for row in rows}, set(range(20)))
        self.assertEqual(run(rows)[len(begin):], expected * 19 + [[0, 1, 8]] * 7)


if __name__ == "__main__":
    unittest.main()

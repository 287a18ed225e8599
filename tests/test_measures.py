"""Calls 13 to 16: how far the sightings reach, and how they lie to a line."""

import random
import unittest
from fractions import Fraction

from helper import NINE, extent, halves, last, mean, run, seen, small_lists, widest

EDGES = [(-1000, -1000), (1000, -1000), (1000, 1000), (-1000, 1000)]


def each(places, calls):
    return run(seen(0, places) + calls)[len(places):]


class Extent(unittest.TestCase):
    def test_of_none(self):
        for x, y in ((0, 0), (1000, -1000), (3, 4)):
            self.assertEqual(last([], extent(0, x, y)), [-5])

    def test_of_one(self):
        self.assertEqual(last([(3, -4)], extent(0, 2, 5)), [0, -14, 0])
        self.assertEqual(last([(3, -4)], extent(0, 0, 0)), [0, 0, 0])

    def test_0_stands_before_what_may_be_below_0(self):
        self.assertEqual(last([(-3, -4), (-1, -9)], extent(0, 1, 0)), [0, -1, 1])
        self.assertEqual(last([(-3, -4), (-1, -9)], extent(0, 0, 1)), [0, -4, 0])
        self.assertEqual(last([(7, 1), (8, 1)], extent(0, -1, 0)), [0, -7, 0])

    def test_each_way(self):
        given = each(NINE, [extent(0, 1, 0), extent(0, -1, 0), extent(0, 0, 1), extent(0, 6, -1), extent(0, 1, 1)])
        self.assertEqual(given, [[0, 8, 8], [0, 0, 0], [0, 64, 8], [0, 9, 3], [0, 72, 8]])

    def test_the_first_of_several(self):
        self.assertEqual(last(NINE, extent(0, 0, 0)), [0, 0, 0])
        self.assertEqual(last([(1, 1), (5, 0), (2, 9), (5, -7), (5, 0)], extent(0, 1, 0)), [0, 5, 1])
        self.assertEqual(last([(0, 0), (2, 1), (1, 2), (3, 0)], extent(0, 1, 1)), [0, 3, 1])
        self.assertEqual(last([(4, 4)] * 9, extent(0, -1, 2)), [0, 4, 0])

    def test_edges(self):
        given = each(EDGES, [extent(0, 1000, 1000), extent(0, -1000, 1000), extent(0, -1000, -1000)])
        self.assertEqual(given, [[0, 2000000, 2], [0, 2000000, 3], [0, 2000000, 0]])
        self.assertEqual(last([(1000, 1000)], extent(0, -1000, -1000)), [0, -2000000, 0])

    def test_against_the_words(self):
        source = random.Random(13)
        for places in small_lists():
            x, y = source.randint(-2, 2), source.randint(-2, 2)
            reaches = [x * place[0] + y * place[1] for place in places]
            slow = [0, max(reaches), reaches.index(max(reaches))] if places else [-5]
            self.assertEqual(last(places, extent(0, x, y)), slow)


class Widest(unittest.TestCase):
    def test_fewer_than_two(self):
        self.assertEqual(last([], widest(0)), [-5])
        self.assertEqual(last([(1, 1)], widest(0)), [-5])

    def test_of_two(self):
        self.assertEqual(last([(4, 0), (0, 3)], widest(0)), [25, 0, 1])
        self.assertEqual(last([(4, 4), (4, 4)], widest(0)), [0, 0, 1])

    def test_which_two(self):
        self.assertEqual(last([(1, 1), (4, 0), (1, 0), (0, 3)], widest(0)), [25, 1, 3])
        self.assertEqual(last(NINE, widest(0)), [8 * 8 + 64 * 64, 0, 8])
        self.assertEqual(last(NINE[:0:-1] + [(0, 100)], widest(0)), [1 + 99 * 99, 7, 8])

    def test_the_first_of_several_pairs(self):
        self.assertEqual(last([(7, 7)] * 9, widest(0)), [0, 0, 1])
        self.assertEqual(last([(1, 1), (0, 0), (2, 2), (0, 2), (2, 0)], widest(0)), [8, 1, 2])
        self.assertEqual(last([(1, 1), (0, 2), (0, 0), (2, 2), (2, 0)], widest(0)), [8, 1, 4])
        # 0 and 3 come ahead of 1 and 2, though 2 is less than 3.
        self.assertEqual(last([(0, 0), (0, 2), (2, 0), (2, 2)], widest(0)), [8, 0, 3])
        self.assertEqual(last([(0, 0), (5, 0), (0, 0), (5, 0)], widest(0)), [25, 0, 1])

    def test_on_one_line(self):
        for step in ((0, 1), (1, 0), (3, 2), (-3, 2)):
            places = [(step[0] * k, step[1] * k) for k in (2, 0, 4, 1, 3)]
            self.assertEqual(last(places, widest(0)), [16 * (step[0] ** 2 + step[1] ** 2), 1, 2])

    def test_edges(self):
        self.assertEqual(last(EDGES, widest(0)), [8000000, 0, 2])
        self.assertEqual(last([(-1000, 0), (0, 0), (1000, 0)], widest(0)), [4000000, 0, 2])

    def test_against_the_words(self):
        for places in small_lists():
            found = [((places[i][0] - places[j][0]) ** 2 + (places[i][1] - places[j][1]) ** 2, -i, -j)
                     for j in range(len(places)) for i in range(j)]
            slow = [abs(number) for number in max(found)] if found else [-5]
            self.assertEqual(last(places, widest(0)), slow)


class Halves(unittest.TestCase):
    def test_left_on_and_right(self):
        places = [(0, 1), (5, 1), (3, 0), (9, -1), (9, -2), (-9, -3)]
        given = each(places, [halves(0, 0, 0, 1, 0), halves(0, 1, 0, 0, 0), halves(0, -1000, 0, 1000, 0)])
        self.assertEqual(given, [[2, 1, 3], [3, 1, 2], [2, 1, 3]])
        given = each(places, [halves(0, 3, 0, 3, 1), halves(0, 3, 1, 3, 0), halves(0, 0, 0, 5, 1)])
        self.assertEqual(given, [[2, 1, 3], [3, 1, 2], [1, 1, 4]])

    def test_of_none(self):
        self.assertEqual(last([], halves(0, 0, 0, 1, 0)), [0, 0, 0])

    def test_a_line_through_sightings(self):
        for step in ((0, 1), (1, 0), (3, 2), (-3, 2)):
            places = [(step[0] * k, step[1] * k) for k in range(9)]
            # A line has no ends: what lies beyond them is on it too.
            self.assertEqual(last(places, halves(0, 0, 0, step[0], step[1])), [0, 9, 0])
            self.assertEqual(last(places, halves(0, step[0], step[1], 0, 0)), [0, 9, 0])
        self.assertEqual(last([(2, 2)] * 9, halves(0, 1, 1, 3, 3)), [0, 9, 0])
        self.assertEqual(last([(2, 2)] * 9, halves(0, 1, 1, 3, 4)), [0, 0, 9])

    def test_edges(self):
        places = EDGES + [(0, 0), (0, 1), (1, 0)]
        given = each(places, [halves(0, -1000, -1000, 1000, 1000), halves(0, 1000, 1000, -1000, -1000),
                              halves(0, -1000, 1000, 1000, -1000), halves(0, -1000, -1000, 1000, 999)])
        self.assertEqual(given, [[2, 3, 2], [2, 3, 2], [3, 3, 1], [4, 1, 2]])

    def test_no_line(self):
        for x, y in ((0, 0), (1000, -1000), (3, 3)):
            self.assertEqual(last(NINE, halves(0, x, y, x, y)), [-6])
            self.assertEqual(last([], halves(0, x, y, x, y)), [-6])

    def test_one_number_alike_is_a_line(self):
        self.assertEqual(last([(0, 0)], halves(0, 3, 4, 3, 5)), [1, 0, 0])
        self.assertEqual(last([(0, 0)], halves(0, 3, 4, 5, 4)), [0, 0, 1])
        self.assertEqual(last([(0, 0)], halves(0, 3, 4, 4, 3)), [0, 0, 1])


class Mean(unittest.TestCase):
    def test_of_none(self):
        self.assertEqual(last([], mean(0)), [-5])

    def test_of_one(self):
        self.assertEqual(last([(3, -4)], mean(0)), [0, 3, 1, -4, 1])
        self.assertEqual(last([(0, 0)], mean(0)), [0, 0, 1, 0, 1])

    def test_lowest_terms(self):
        self.assertEqual(last([(1, 2), (2, 2)], mean(0)), [0, 3, 2, 2, 1])
        self.assertEqual(last([(1, 0), (0, 2), (1, 0), (0, 4)], mean(0)), [0, 1, 2, 3, 2])
        self.assertEqual(last(NINE, mean(0)), [0, 4, 1, 68, 3])

    def test_sums_below_0_and_of_0(self):
        self.assertEqual(last([(-1, 1), (-2, -1), (0, 0)], mean(0)), [0, -1, 1, 0, 1])
        self.assertEqual(last([(-1, -1), (-2, -1), (0, 0), (1, -4)], mean(0)), [0, -1, 2, -3, 2])
        self.assertEqual(last([(-1, -5), (1, 0), (0, 0), (0, 0), (0, 0), (0, 1)], mean(0)), [0, 0, 1, -2, 3])
        self.assertEqual(last([(0, 0)] * 9, mean(0)), [0, 0, 1, 0, 1])

    def test_each_place_counts_as_often_as_it_was_seen(self):
        self.assertEqual(last([(6, 0), (0, 3), (6, 0)], mean(0)), [0, 4, 1, 1, 1])

    def test_edges(self):
        self.assertEqual(last([(-1000, 1000)] * 9, mean(0)), [0, -1000, 1, 1000, 1])
        self.assertEqual(last([(-1000, 1000)] * 8 + [(-999, 999)], mean(0)), [0, -8999, 9, 8999, 9])

    def test_against_the_words(self):
        for places in small_lists():
            if places:
                slow = [0]
                for k in (0, 1):
                    slow.extend(Fraction(sum(place[k] for place in places), len(places)).as_integer_ratio())
                self.assertEqual(last(places, mean(0)), slow)


if __name__ == "__main__":
    unittest.main()

"""Calls 17 to 19: what two ranges have in common, and how far they're apart."""

import random
import unittest
from fractions import Fraction

from helper import (NINE, area, gap, last, last_of_two, meet, overlap, run, seen, slow_gap, slow_overlap)

EDGES = [(-1000, -1000), (1000, -1000), (1000, 1000), (-1000, 1000)]
SQUARE = [(0, 0), (4, 0), (4, 4), (0, 4)]
TRIANGLE = [(0, 0), (6, 0), (0, 6)]


def moved(places, x, y):
    return [(place[0] + x, place[1] + y) for place in places]


class Pairs(unittest.TestCase):
    def told(self, places, others, common, met, apart):
        """Both ways round: overlap, meet and gap don't ask which is the first."""
        with self.subTest(places=places, others=others):
            calls = [overlap(0, 1), overlap(1, 0), meet(0, 1), meet(1, 0), gap(0, 1), gap(1, 0)]
            given = run(seen(0, places) + seen(1, others) + calls)[-6:]
            self.assertEqual(given, [common, common, [met], [met], apart, apart])


class Areas(Pairs):
    def test_side_over_side(self):
        self.told(SQUARE, moved(SQUARE, 1, 2), [12, 1], 1, [0, 1])
        self.told(SQUARE, moved(SQUARE, -3, -3), [2, 1], 1, [0, 1])
        self.told(SQUARE, [(1, -9), (2, -9), (2, 9), (1, 9)], [8, 1], 1, [0, 1])

    def test_a_fraction_in_lowest_terms(self):
        # y up to 6 - x, and y up to x / 2: they cross in (4, 2).
        self.told(TRIANGLE, [(0, 0), (6, 0), (6, 3)], [12, 1], 1, [0, 1])
        # y up to x / 3: they cross in (9 / 2, 3 / 2).
        self.told(TRIANGLE, [(0, 0), (6, 0), (6, 2)], [9, 1], 1, [0, 1])
        # y up to x / 6: they cross in (36 / 7, 6 / 7).
        self.told(TRIANGLE, [(0, 0), (6, 0), (6, 1)], [36, 7], 1, [0, 1])
        self.told([(0, 0), (1, 0), (0, 1)], [(0, 0), (1, 0), (1, 1)], [1, 2], 1, [0, 1])

    def test_star(self):
        # Two triangles that cross in six points.
        self.told([(0, 0), (6, 0), (3, 6)], [(0, 4), (3, -2), (6, 4)], [24, 1], 1, [0, 1])

    def test_one_within_the_other(self):
        self.told(SQUARE, [(1, 1), (3, 1), (2, 2)], [2, 1], 1, [0, 1])
        self.told(EDGES, NINE, last(NINE, area(0))[:1] + [1], 1, [0, 1])
        # It may touch the rim from within, in a corner or along a side.
        self.told(SQUARE, [(0, 0), (3, 1), (2, 2)], [4, 1], 1, [0, 1])
        self.told(SQUARE, [(1, 0), (3, 0), (2, 2)], [4, 1], 1, [0, 1])

    def test_the_same_range(self):
        for places in (SQUARE, TRIANGLE, EDGES, NINE):
            twice = last(places, area(0))[0]
            self.told(places, places, [twice, 1], 1, [0, 1])
            self.told(places, places[::-1], [twice, 1], 1, [0, 1])

    def test_touching_in_a_corner(self):
        self.told(SQUARE, moved(SQUARE, 4, 4), [0, 1], 1, [0, 1])
        self.told(SQUARE, moved(SQUARE, -4, 4), [0, 1], 1, [0, 1])
        self.told(SQUARE, [(4, 2), (6, 0), (6, 4)], [0, 1], 1, [0, 1])
        self.told(TRIANGLE, [(3, 3), (6, 4), (4, 6)], [0, 1], 1, [0, 1])

    def test_touching_along_a_side(self):
        self.told(SQUARE, moved(SQUARE, 4, 0), [0, 1], 1, [0, 1])
        self.told(SQUARE, moved(SQUARE, 1, -4), [0, 1], 1, [0, 1])
        self.told(TRIANGLE, [(6, 0), (0, 6), (6, 6)], [0, 1], 1, [0, 1])
        self.told(TRIANGLE, [(7, -1), (2, 4), (6, 6)], [0, 1], 1, [0, 1])

    def test_apart(self):
        self.told(SQUARE, moved(SQUARE, 5, 0), [0, 1], 0, [1, 1])
        self.told(SQUARE, moved(SQUARE, 7, -8), [0, 1], 0, [25, 1])
        # Nearest to the inner part of a side.
        self.told(SQUARE, [(9, 2), (7, 3), (9, 4)], [0, 1], 0, [9, 1])
        self.told(TRIANGLE, [(4, 4), (7, 4), (4, 7)], [0, 1], 0, [2, 1])
        self.told(TRIANGLE, [(4, 3), (7, 4), (4, 7)], [0, 1], 0, [1, 2])
        # Their boxes cross.
        self.told([(0, 0), (9, 0), (0, 4)], [(9, 1), (9, 4), (1, 4)], [0, 1], 0, [16, 97])

    def test_edges_of_the_grid(self):
        self.told(EDGES, EDGES[:3], [4000000, 1], 1, [0, 1])
        self.told(EDGES[:3], [EDGES[0], EDGES[2], EDGES[3]], [0, 1], 1, [0, 1])
        self.told(EDGES[:3], [EDGES[0], EDGES[1], EDGES[3]], [2000000, 1], 1, [0, 1])
        low = [(-1000, -1000), (1000, 999), (1000, -1000)]
        self.told(low, [(-1000, -999), (1000, 1000), (-1000, 1000)], [0, 1], 0, [4000000, 1999 ** 2 + 2000 ** 2])


class PlacesAndWays(Pairs):
    def gap_refused(self, places, others):
        given = run(seen(0, places) + seen(1, others) + [overlap(0, 1), meet(0, 1), gap(0, 1),
                                                         overlap(1, 0), meet(1, 0), gap(1, 0)])[-6:]
        self.assertEqual(given, [[0, 1], [0], [-5]] * 2)

    def test_one_is_empty(self):
        for places in ([], [(0, 0)], [(0, 0), (3, 4)], SQUARE, NINE):
            self.gap_refused(places, [])

    def test_two_places(self):
        self.told([(2, 3)], [(2, 3)], [0, 1], 1, [0, 1])
        self.told([(2, 3)] * 9, [(2, 3)], [0, 1], 1, [0, 1])
        self.told([(2, 3)], [(5, 7)], [0, 1], 0, [25, 1])
        self.told([(-1000, -1000)], [(1000, 1000)] * 4, [0, 1], 0, [8000000, 1])

    def test_a_place_and_a_way(self):
        way = [(0, 0), (4, 2), (2, 1)]
        for place in way + [(0, 0)]:
            self.told([place], way, [0, 1], 1, [0, 1])
        self.told([(6, 3)], way, [0, 1], 0, [5, 1])
        self.told([(-3, -4)], way, [0, 1], 0, [25, 1])
        self.told([(1, 1)], way, [0, 1], 0, [1, 5])
        self.told([(1, 3)], way, [0, 1], 0, [5, 1])
        # Beside an end: straight across it, a bit ahead of it, a bit beyond.
        self.told([(3, 4)], way, [0, 1], 0, [5, 1])
        self.told([(3, 3)], way, [0, 1], 0, [9, 5])
        self.told([(4, 3)], way, [0, 1], 0, [1, 1])
        self.told([(-1, 2)], way, [0, 1], 0, [5, 1])
        self.told([(0, 1)], way, [0, 1], 0, [4, 5])
        self.told([(0, -1)], way, [0, 1], 0, [1, 1])

    def test_a_place_and_an_area(self):
        for place in ((2, 2), (0, 0), (0, 3), (4, 4)):
            self.told([place], SQUARE, [0, 1], 1, [0, 1])
        self.told([(5, 2)], SQUARE, [0, 1], 0, [1, 1])
        self.told([(7, 8)], SQUARE, [0, 1], 0, [25, 1])
        self.told([(2, 2)], [(0, 0), (4, 0), (0, 3), (1, 1)], [0, 1], 0, [4, 25])

    def test_ways_that_cross(self):
        self.told([(0, 0), (4, 4)], [(0, 4), (4, 0)], [0, 1], 1, [0, 1])
        self.told([(0, 0), (0, 4)], [(-1, 2), (5, 2)], [0, 1], 1, [0, 1])
        # In a point that is no place of the grid.
        self.told([(0, 0), (1, 1)], [(0, 1), (1, 0)], [0, 1], 1, [0, 1])
        self.told([(-1000, -1000), (1000, 999)], [(-1000, -999), (1000, -1000)], [0, 1], 1, [0, 1])

    def test_ways_that_touch(self):
        self.told([(0, 0), (4, 4)], [(2, 2), (4, 0)], [0, 1], 1, [0, 1])
        self.told([(0, 0), (4, 4)], [(4, 4), (8, 0)], [0, 1], 1, [0, 1])
        self.told([(0, 0), (4, 4)], [(4, 4), (8, 8)], [0, 1], 1, [0, 1])
        self.told([(0, 0), (4, 4)], [(2, 2), (8, 8)], [0, 1], 1, [0, 1])
        self.told([(0, 0), (4, 4)], [(1, 1), (3, 3)], [0, 1], 1, [0, 1])
        self.told([(0, 0), (4, 4)], [(4, 4), (0, 0)], [0, 1], 1, [0, 1])

    def test_ways_apart(self):
        self.told([(0, 0), (4, 4)], [(5, 5), (8, 8)], [0, 1], 0, [2, 1])
        self.told([(0, 0), (4, 4)], [(0, 1), (4, 5)], [0, 1], 0, [1, 2])
        self.told([(0, 0), (4, 0)], [(5, 1), (5, -1)], [0, 1], 0, [1, 1])
        self.told([(0, 0), (4, 0)], [(2, 1), (2, 9)], [0, 1], 0, [1, 1])
        # Each line parts the ends of only one of the two.
        self.told([(0, 0), (4, 4)], [(0, 4), (1, 3)], [0, 1], 0, [2, 1])

    def test_a_way_and_an_area(self):
        self.told([(-1, 2), (5, 2)], SQUARE, [0, 1], 1, [0, 1])
        self.told([(1, 2), (5, 2)], SQUARE, [0, 1], 1, [0, 1])
        self.told([(1, 2), (3, 2)], SQUARE, [0, 1], 1, [0, 1])
        self.told([(0, 0), (4, 4)], SQUARE, [0, 1], 1, [0, 1])
        self.told([(-1, 5), (5, -1)], SQUARE, [0, 1], 1, [0, 1])
        self.told([(4, 1), (4, 9)], SQUARE, [0, 1], 1, [0, 1])
        self.told([(3, 5), (5, 3)], SQUARE, [0, 1], 1, [0, 1])
        self.told([(4, 5), (5, 4)], SQUARE, [0, 1], 0, [1, 2])
        self.told([(5, 1), (5, 9)], SQUARE, [0, 1], 0, [1, 1])
        # Through no corner, and no end of it within.
        self.told([(3, 9), (5, -9)], SQUARE, [0, 1], 1, [0, 1])


class OneAnimal(unittest.TestCase):
    def test_a_is_b(self):
        for places in ([(2, 3)], [(2, 3)] * 9, [(0, 0), (4, 2)], SQUARE, NINE, EDGES):
            given = run(seen(2, places) + [overlap(2, 2), meet(2, 2), gap(2, 2), area(2)])[-4:]
            self.assertEqual(given[:3], [[given[3][0], 1], [1], [0, 1]])

    def test_a_is_b_and_has_none(self):
        self.assertEqual(run([overlap(1, 1), meet(1, 1), gap(1, 1)]), [[0, 1], [0], [-5]])

    def test_the_animals_that_are_named(self):
        given = run(seen(1, SQUARE) + seen(2, moved(SQUARE, 1, 1)) + seen(3, [(9, 4)])
                    + [overlap(1, 2), overlap(1, 3), overlap(1, 0), meet(2, 1), meet(2, 3), meet(0, 2),
                       gap(1, 3), gap(3, 2), gap(0, 3), gap(3, 0)])[9:]
        self.assertEqual(given, [[18, 1], [0, 1], [0, 1], [1], [0], [0], [25, 1], [16, 1], [-5], [-5]])


class AgainstTheWords(Pairs):
    def lists(self, seed, most):
        source = random.Random(seed)
        for number in range(120):
            reach = source.choice((2, 4, 9))
            counts = [source.randint(1, most) for k in (0, 1)]
            off = source.choice((0, 0, reach, 2 * reach))
            first, second = [[(source.randint(-reach, reach), source.randint(-reach, reach)) for k in range(count)]
                             for count in counts]
            yield first, moved(second, off, source.choice((0, off)))

    def test_small_lists(self):
        for places, others in self.lists(17, 5):
            apart = slow_gap(places, others)
            self.told(places, others, slow_overlap(places, others), 1 if apart == [0, 1] else 0, apart)

    def test_long_lists_over_the_whole_grid(self):
        source = random.Random(18)
        for number in range(6):
            places, others = [[(source.randint(-1000, 1000), source.randint(-1000, 1000)) for k in range(9)]
                              for animal in (0, 1)]
            self.assertEqual(last_of_two(places, others, overlap(0, 1)), slow_overlap(places, others))

    def test_parts_make_the_whole(self):
        for places, others in self.lists(19, 9):
            quarters = [[(0, 0), (x, 0), (x, y), (0, y)] for x in (-1000, 1000) for y in (-1000, 1000)]
            parts = [last_of_two(places, quarter, overlap(0, 1)) for quarter in quarters]
            total = sum(Fraction(part[0], part[1]) for part in parts)
            self.assertEqual(total, last(places, area(0))[0])


if __name__ == "__main__":
    unittest.main()

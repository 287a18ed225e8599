"""Calls 7 to 9: the range's corners, its size, and where a place lies to it."""

import unittest

from helper import (NINE, area, hull, last, run, seen, slow_area, slow_corners, slow_where,
                    small_lists, turn_of, where)

SQUARE = [(-1000, -1000), (1000, 1000), (-1000, 1000), (1000, -1000)]
UPRIGHT = [(2, 5), (2, -1), (2, 3), (2, 5)]
LEVEL = [(4, 7), (-5, 7), (0, 7), (1, 7)]
SLANTING = [(0, 0), (6, 4), (3, 2), (-3, -2)]
FALLING = [(0, 0), (6, -4), (3, -2), (-3, 2)]
RING = [(0, 0), (4, 0), (4, 4), (0, 4), (2, 0), (4, 2), (2, 4), (0, 2), (2, 2)]


def standings(places, asked):
    given = run(seen(0, places) + [where(0, x, y) for x, y in asked])[len(places):]
    return [number for row in given for number in row]


class Hull(unittest.TestCase):
    def test_of_few(self):
        self.assertEqual(last([], hull(0)), [0])
        self.assertEqual(last([(-7, 9)], hull(0)), [1, -7, 9])
        self.assertEqual(last([(5, 1), (2, 8)], hull(0)), [2, 2, 8, 5, 1])

    def test_of_one_place_again_and_again(self):
        self.assertEqual(last([(3, -3)] * 9, hull(0)), [1, 3, -3])
        self.assertEqual(last([(3, -3), (0, 0)] * 4, hull(0)), [2, 0, 0, 3, -3])
        self.assertEqual(last([(0, 1), (1, 0), (0, 0)] * 3, hull(0)), [3, 0, 0, 1, 0, 0, 1])

    def test_on_one_line(self):
        self.assertEqual(last(UPRIGHT, hull(0)), [2, 2, -1, 2, 5])
        self.assertEqual(last(LEVEL, hull(0)), [2, -5, 7, 4, 7])
        self.assertEqual(last(SLANTING, hull(0)), [2, -3, -2, 6, 4])
        self.assertEqual(last(FALLING, hull(0)), [2, -3, 2, 6, -4])

    def test_begins_with_the_least_and_goes_against_the_clock(self):
        self.assertEqual(last([(1, 1), (0, 1), (1, 0), (0, 0)], hull(0)), [4, 0, 0, 1, 0, 1, 1, 0, 1])
        self.assertEqual(last([(0, 5), (3, 9), (2, -4)], hull(0)), [3, 0, 5, 2, -4, 3, 9])

    def test_no_corner_between_two_others(self):
        self.assertEqual(last(RING, hull(0)), [4, 0, 0, 4, 0, 4, 4, 0, 4])
        slanting = [(0, 0), (2, 4), (1, 2), (6, 0), (4, 2), (5, 1), (3, 0)]
        self.assertEqual(last(slanting, hull(0)), [3, 0, 0, 6, 0, 2, 4])

    def test_nine_corners(self):
        self.assertEqual(last(NINE, hull(0)), [9] + [number for place in NINE for number in place])

    def test_edges_of_the_grid(self):
        corners = [4, -1000, -1000, 1000, -1000, 1000, 1000, -1000, 1000]
        self.assertEqual(last(SQUARE, hull(0)), corners)
        # So flat a corner that only whole numbers tell it from a straight side.
        self.assertEqual(last([(-1000, -1000), (1000, 1000), (0, 1)], hull(0)),
                         [3, -1000, -1000, 1000, 1000, 0, 1])

    def test_of_each_animal(self):
        given = run(seen(3, LEVEL) + [hull(0), hull(3)])
        self.assertEqual(given[-2:], [[0], [2, -5, 7, 4, 7]])


class Area(unittest.TestCase):
    def test_of_few(self):
        self.assertEqual(last([], area(0)), [0, 0, 0])
        self.assertEqual(last([(-7, 9)], area(0)), [0, 1, 0])
        self.assertEqual(last([(-7, 9)] * 9, area(0)), [0, 1, 0])
        self.assertEqual(last([(0, 0), (2, 3)], area(0)), [0, 2, 0])

    def test_on_one_line(self):
        self.assertEqual(last(UPRIGHT, area(0)), [0, 7, 0])
        self.assertEqual(last(LEVEL, area(0)), [0, 10, 0])
        self.assertEqual(last(SLANTING, area(0)), [0, 4, 0])
        self.assertEqual(last(FALLING, area(0)), [0, 4, 0])

    def test_of_shapes(self):
        self.assertEqual(last([(0, 0), (1, 0), (0, 1)], area(0)), [1, 3, 0])
        self.assertEqual(last(RING, area(0)), [32, 16, 9])
        self.assertEqual(last([(0, 0), (4, 0), (0, 3), (1, 1)], area(0)), [12, 8, 3])

    def test_edges_of_the_grid(self):
        self.assertEqual(last(SQUARE, area(0)), [8000000, 8000, 1999 * 1999])
        self.assertEqual(last([(-1000, -1000), (1000, 1000)], area(0)), [0, 2001, 0])
        self.assertEqual(last([(-1000, -1000), (1000, 1000), (0, 1)], area(0)), [2000, 2002, 0])


class Where(unittest.TestCase):
    def test_of_few(self):
        self.assertEqual(standings([], [(0, 0)]), [0])
        self.assertEqual(standings([(2, 3)], [(2, 3), (2, 4), (3, 3), (3, 2)]), [2, 0, 0, 0])
        self.assertEqual(standings([(2, 3)] * 9, [(2, 3), (2, 2)]), [2, 0])

    def test_on_one_line(self):
        self.assertEqual(standings(UPRIGHT, [(2, 5), (2, 4), (2, -1), (2, 6), (2, -2), (1, 3), (3, 3)]),
                         [2, 2, 2, 0, 0, 0, 0])
        self.assertEqual(standings(LEVEL, [(4, 7), (3, 7), (-5, 7), (5, 7), (-6, 7), (0, 6), (0, 8)]),
                         [2, 2, 2, 0, 0, 0, 0])
        self.assertEqual(standings(SLANTING, [(-3, -2), (3, 2), (6, 4), (9, 6), (-6, -4), (1, 1), (2, 1)]),
                         [2, 2, 2, 0, 0, 0, 0])
        self.assertEqual(standings(FALLING, [(-3, 2), (3, -2), (6, -4), (9, -6), (-6, 4), (1, -1), (2, -1)]),
                         [2, 2, 2, 0, 0, 0, 0])

    def test_of_a_square(self):
        self.assertEqual(standings(RING, [(1, 1), (2, 2), (3, 3)]), [1, 1, 1])
        self.assertEqual(standings(RING, [(0, 0), (1, 0), (4, 3), (3, 4), (0, 1), (4, 4)]), [2, 2, 2, 2, 2, 2])
        # On the line of a side, but beyond its ends.
        self.assertEqual(standings(RING, [(5, 0), (-1, 0), (4, 5), (0, -1), (2, 5), (2, -1)]), [0, 0, 0, 0, 0, 0])

    def test_edges_of_the_grid(self):
        self.assertEqual(standings(SQUARE, [(-1000, -1000), (1000, 0), (0, 1000), (999, -999)]), [2, 2, 2, 1])
        flat = [(-1000, -1000), (1000, 1000), (999, 1000)]
        self.assertEqual(standings(flat, [(0, 0), (0, 1), (999, 999), (-1000, 1000), (1, 0)]), [2, 0, 2, 0, 0])


class AgainstTheWords(unittest.TestCase):
    """Many small lists, each answer held against a slow one."""

    def check_corners(self, places):
        numbers = last(places, hull(0))
        corners = list(zip(numbers[1::2], numbers[2::2]))
        self.assertEqual(len(numbers), 1 + 2 * len(corners))
        self.assertEqual(numbers[0], len(corners))
        self.assertEqual(sorted(corners), sorted(slow_corners(places)))
        self.assertEqual(corners[:1], sorted(corners)[:1])
        if len(corners) > 2:
            for k in range(len(corners)):
                self.assertGreater(turn_of(corners[k - 2], corners[k - 1], corners[k]), 0)

    def test_hull(self):
        for places in small_lists():
            with self.subTest(places=places):
                self.check_corners(places)

    def test_area(self):
        for places in small_lists():
            with self.subTest(places=places):
                self.assertEqual(last(places, area(0)), slow_area(places))

    def test_where(self):
        asked = [(x, y) for x in range(-4, 5) for y in range(-4, 5)]
        for places in list(small_lists())[::3]:
            with self.subTest(places=places):
                slow = [slow_where(places, place) for place in asked]
                self.assertEqual(standings(places, asked), slow)


if __name__ == "__main__":
    unittest.main()

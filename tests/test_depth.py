"""Calls 10 to 12: how deep a place lies, the layers, and the least range without some."""

import unittest

from helper import (NINE, area, depth, last, layers, least, run, seen, slow_depth, slow_layers,
                    slow_least, small_lists)

EDGES = [(-1000, -1000), (1000, -1000), (1000, 1000), (-1000, 1000)]
RINGS = [(0, 0), (9, 0), (0, 9), (1, 1), (6, 1), (1, 6), (2, 2), (4, 2), (2, 4)]


def depths(places, asked):
    given = run(seen(0, places) + [depth(0, x, y) for x, y in asked])[len(places):]
    return [number for row in given for number in row]


class Depth(unittest.TestCase):
    def test_of_few(self):
        self.assertEqual(depths([], [(0, 0)]), [0])
        self.assertEqual(depths([(2, 3)], [(2, 3), (2, 4), (3, 3), (1, 3), (2, 2)]), [1, 0, 0, 0, 0])
        self.assertEqual(depths([(0, 0), (4, 2)], [(0, 0), (2, 1), (4, 2), (6, 3), (-2, -1), (2, 2)]),
                         [1, 1, 1, 0, 0, 0])

    def test_each_place_in_the_list_counts_by_itself(self):
        self.assertEqual(depths([(2, 3)] * 9, [(2, 3), (2, 4)]), [9, 0])
        self.assertEqual(depths([(0, 0)] * 3 + [(2, 2)] * 5, [(0, 0), (1, 1), (2, 2)]), [3, 3, 5])
        self.assertEqual(depths([(0, 0)] * 2 + [(4, 0)] * 2 + [(0, 3)] * 2, [(1, 1), (0, 1), (4, 0)]), [2, 2, 2])

    def test_on_one_line(self):
        for step in ((0, 1), (1, 0), (3, 2), (-3, 2)):
            places = [(step[0] * k, step[1] * k) for k in (4, 0, 2, 1, 3)]
            asked = [(step[0] * k, step[1] * k) for k in range(-1, 6)]
            self.assertEqual(depths(places, asked), [0, 1, 2, 3, 2, 1, 0])
            self.assertEqual(depths(places, [(step[0] - 1, step[1] + 2), (2, 1)]), [0, 0])

    def test_on_the_rim_and_within(self):
        places = [(0, 0), (4, 0), (0, 3), (1, 1)]
        self.assertEqual(depths(places, [(1, 1), (2, 1), (2, 0), (0, 0), (2, 2)]), [2, 1, 1, 1, 0])
        self.assertEqual(depths(EDGES, [(0, 0), (1, 0), (1000, 0), (1000, 1000), (500, 500)]), [2, 1, 1, 1, 1])

    def test_of_nine(self):
        self.assertEqual(depths(RINGS, [(0, 0), (1, 1), (2, 2), (3, 3), (4, 4), (5, 5)]), [1, 2, 3, 3, 1, 0])
        self.assertEqual(depths(EDGES * 2 + [(0, 0)], [(0, 0), (0, 1), (1, 1)]), [5, 2, 2])

    def test_is_0_just_where_the_place_is_not_in_the_range(self):
        flat = [(-1000, -1000), (1000, 1000), (999, 1000)]
        self.assertEqual(depths(flat, [(0, 0), (0, 1), (1, 0), (-1000, 1000), (999, 999)]), [1, 0, 0, 0, 1])

    def test_against_the_words(self):
        asked = [(x, y) for x in range(-4, 5, 2) for y in range(-3, 4)]
        for places in list(small_lists())[::2]:
            with self.subTest(places=places):
                self.assertEqual(depths(places, asked), [slow_depth(places, place) for place in asked])


class Layers(unittest.TestCase):
    def test_of_few(self):
        self.assertEqual(last([], layers(0)), [0])
        self.assertEqual(last([(5, -5)], layers(0)), [1, 1])
        self.assertEqual(last([(5, -5), (0, 0)], layers(0)), [2, 1, 1])

    def test_all_on_the_rim(self):
        self.assertEqual(last([(5, -5)] * 9, layers(0)), [9] + [1] * 9)
        for step in ((0, 1), (1, 0), (3, 2), (-3, 2)):
            self.assertEqual(last([(step[0] * k, step[1] * k) for k in range(9)], layers(0)), [9] + [1] * 9)
        self.assertEqual(last(NINE, layers(0)), [9] + [1] * 9)
        # Not only corners are on the rim.
        self.assertEqual(last([(0, 0), (4, 0), (2, 0), (0, 4), (2, 2), (0, 1)], layers(0)), [6, 1, 1, 1, 1, 1, 1])

    def test_ring_within_ring(self):
        self.assertEqual(last(RINGS, layers(0)), [9, 1, 1, 1, 2, 2, 2, 3, 3, 3])
        self.assertEqual(last(RINGS[::-1], layers(0)), [9, 3, 3, 3, 2, 2, 2, 1, 1, 1])
        self.assertEqual(last(RINGS[:7], layers(0)), [7, 1, 1, 1, 2, 2, 2, 3])
        self.assertEqual(last(RINGS[:8], layers(0)), [8, 1, 1, 1, 2, 2, 2, 3, 3])

    def test_the_same_place_has_one_layer(self):
        places = [(1, 1), (0, 0), (4, 0), (1, 1), (0, 3), (0, 0), (1, 1)]
        self.assertEqual(last(places, layers(0)), [7, 2, 1, 1, 2, 1, 1, 2])

    def test_a_way_within(self):
        self.assertEqual(last(EDGES + [(0, 0), (0, 1), (0, 2)], layers(0)), [7, 1, 1, 1, 1, 2, 2, 2])
        self.assertEqual(last(EDGES + [(0, 1000), (999, -999), (-1000, 3)], layers(0)), [7, 1, 1, 1, 1, 1, 2, 1])

    def test_against_the_words(self):
        for places in small_lists():
            with self.subTest(places=places):
                self.assertEqual(last(places, layers(0)), [len(places)] + slow_layers(places))


class Least(unittest.TestCase):
    def test_without_none_it_is_the_area(self):
        for places in ([], [(3, 4)], [(3, 4), (5, 6)], RINGS, NINE, EDGES):
            self.assertEqual(last(places, least(0, 0)), last(places, area(0))[:1])

    def test_as_many_sightings_as_are_left_out(self):
        for k in range(4):
            self.assertEqual(last(NINE[:k], least(0, k)), [0] + list(range(k)))

    def test_one_fewer_than_are_left_out(self):
        for k in range(1, 4):
            for count in range(k):
                self.assertEqual(last(NINE[:count], least(0, k)), [-5])

    def test_which_one(self):
        places = [(0, 0), (4, 0), (0, 3), (1, 1)]
        self.assertEqual(last(places, least(0, 1)), [3, 1])
        self.assertEqual(last(places, least(0, 2)), [0, 0, 1])
        self.assertEqual(last(places[::-1], least(0, 1)), [3, 2])
        self.assertEqual(last([(0, 0), (1, 0), (0, 1), (900, 900), (1, 1)], least(0, 1)), [2, 3])

    def test_the_first_of_several_sets(self):
        self.assertEqual(last(EDGES, least(0, 1)), [4000000, 0])
        self.assertEqual(last(EDGES, least(0, 2)), [0, 0, 1])
        self.assertEqual(last([(5, 5)] * 9, least(0, 1)), [0, 0])
        self.assertEqual(last([(5, 5)] * 9, least(0, 2)), [0, 0, 1])
        self.assertEqual(last([(5, 5)] * 9, least(0, 3)), [0, 0, 1, 2])
        for step in ((0, 1), (1, 0), (3, 2)):
            line = [(step[0] * k, step[1] * k) for k in range(9)]
            self.assertEqual(last(line, least(0, 3)), [0, 0, 1, 2])
        # Without (9, 9) twice the rest is a line.
        self.assertEqual(last([(0, 0), (9, 9), (1, 0), (9, 9), (2, 0), (3, 0)], least(0, 2)), [0, 1, 3])
        self.assertEqual(last([(0, 0), (9, 9), (1, 0), (9, 9), (2, 0), (3, 0)], least(0, 3)), [0, 0, 1, 3])

    def test_a_corner_seen_twice_stays_if_one_goes(self):
        places = [(0, 0), (0, 0), (4, 0), (4, 0), (0, 3), (0, 3)]
        self.assertEqual(last(places, least(0, 1)), [12, 0])
        self.assertEqual(last(places, least(0, 2)), [0, 0, 1])

    def test_of_nine(self):
        self.assertEqual(last(RINGS, least(0, 1)), [54, 1])
        self.assertEqual(last(RINGS, least(0, 2)), [35, 1, 2])
        # Without 1, 2 and 5 it is as little.
        self.assertEqual(last(RINGS, least(0, 3)), [22, 1, 2, 4])

    def test_against_the_words(self):
        for places in list(small_lists())[::2]:
            for k in range(min(3, len(places)) + 1):
                with self.subTest(places=places, k=k):
                    self.assertEqual(last(places, least(0, k)), slow_least(places, k))


if __name__ == "__main__":
    unittest.main()

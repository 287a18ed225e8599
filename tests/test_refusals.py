"""Numbers out of their range, the order of the refusals, and that nothing changes then."""

import unittest

from helper import (HIGH, LOW, NINE, area, clear, depth, extent, forget, gap, halves, hull, join, layers,
                    least, mean, meet, overlap, run, see, seen, shift, told, told_all, turn, where, widest)

NO_ANIMALS = (-1, 4, LOW, HIGH)
NO_NUMBERS = (-1001, 1001, LOW, HIGH)
SETUP = seen(0, NINE) + seen(1, [(1000, -1000), (5, 5)]) + seen(3, [(-1000, 1000)])


class Refusals(unittest.TestCase):
    def refused(self, call, number):
        given = run(SETUP + told_all() + [call] + told_all())[len(SETUP):]
        with self.subTest(call=call):
            self.assertEqual(given[4], [number])
            self.assertEqual(given[5:], given[:4])

    def test_animals(self):
        for a in NO_ANIMALS:
            for call in (told(a), clear(a), turn(a), hull(a), area(a), forget(a, 0)):
                self.refused(call, -1)
            for call in (layers(a), widest(a), mean(a), least(a, 0), halves(a, 0, 0, 1, 1)):
                self.refused(call, -1)
            for make in (see, shift, where, depth, extent):
                self.refused(make(a, 0, 0), -1)
            for call in (join(a, 2, 2), join(2, a, 2), join(2, 2, a)):
                self.refused(call, -1)
            for make in (overlap, meet, gap):
                self.refused(make(a, 0), -1)
                self.refused(make(0, a), -1)
                self.refused(make(a, a), -1)

    def test_places(self):
        for number in NO_NUMBERS:
            for a in (1, 2):
                for make in (see, shift, where, depth, extent):
                    self.refused(make(a, number, 0), -1)
                    self.refused(make(a, 0, number), -1)
                for k in range(4):
                    places = [number if other == k else other for other in range(4)]
                    self.refused([15, a] + places, -1)

    def test_places_at_the_ends_are_taken(self):
        for x in (-1000, 1000):
            for y in (-1000, 1000):
                given = run([see(2, x, y), told(2), where(2, x, y), clear(2), shift(2, x, y)])
                self.assertEqual(given, [[1], [1, x, y], [2], [1], [0]])
                given = run([see(2, x, y), depth(2, x, y), extent(2, x, y), halves(2, x, y, -x, -y)])
                self.assertEqual(given, [[1], [1], [0, 2000000, 0], [0, 1, 0]])

    def test_how_many_are_left_out(self):
        for k in (-1, 4, LOW, HIGH):
            for a in range(4):
                self.refused(least(a, k), -1)

    def test_indexes(self):
        for i in (-1, LOW, HIGH):
            for a in range(4):
                self.refused(forget(a, i), -1)
        for a, count in enumerate((9, 2, 0, 1)):
            self.refused(forget(a, count), -1)

    def test_too_many(self):
        self.refused(see(0, 1, 1), -3)
        self.refused(join(0, 1, 2), -3)
        self.refused(join(0, 3, 3), -3)
        self.refused(join(1, 0, 0), -3)
        self.refused(join(0, 0, 0), -3)

    def test_over_the_edge(self):
        self.refused(shift(1, 1, 0), -4)
        self.refused(shift(1, 0, -1), -4)
        self.refused(shift(3, -1, 0), -4)
        self.refused(shift(3, 0, 1), -4)
        self.refused(shift(0, 1000, 0), -4)

    def test_too_few(self):
        for call in (extent(2, 0, 0), extent(2, 5, 5), mean(2), widest(2), widest(3)):
            self.refused(call, -5)
        for call in (least(2, 1), least(2, 2), least(2, 3), least(3, 2), least(3, 3), least(1, 3)):
            self.refused(call, -5)
        for call in (gap(2, 2), gap(2, 0), gap(0, 2), gap(3, 2)):
            self.refused(call, -5)

    def test_no_line(self):
        for a in range(4):
            for x, y in ((0, 0), (-1000, 1000), (5, 5)):
                self.refused(halves(a, x, y, x, y), -6)

    def test_just_enough_is_not_refused(self):
        rows = [extent(3, 0, 0), mean(3), widest(1), least(2, 0), least(3, 1), least(1, 2), least(0, 3), gap(0, 3),
                halves(2, 0, 0, 0, 1)]
        for answered in run(SETUP + rows)[len(SETUP):]:
            self.assertGreaterEqual(answered[0], 0)

    def test_out_of_range_comes_first(self):
        for number in NO_NUMBERS:
            self.refused(see(0, number, 1), -1)
            self.refused(see(0, 1, number), -1)
            self.refused(shift(1, number, -1), -1)
            self.refused(shift(1, 1, number), -1)
            self.refused(extent(2, number, 0), -1)
            self.refused(extent(2, 0, number), -1)
            self.refused(halves(0, number, 0, number, 0), -1)
            self.refused(halves(2, 0, number, 0, number), -1)
        for a in NO_ANIMALS:
            self.refused(gap(2, a), -1)
            self.refused(gap(a, 2), -1)
            self.refused(least(a, 3), -1)
            self.refused(halves(a, 1, 1, 1, 1), -1)
            self.refused(join(0, 0, a), -1)
            self.refused(see(a, 1001, 0), -1)
            self.refused(forget(a, HIGH), -1)

    def test_what_comes_after_a_refusal_is_answered(self):
        given = run([see(4, 0, 0), see(0, 1, 2), shift(0, 1000, 0), forget(0, 1), see(0, 3, 4), told(0)])
        self.assertEqual(given, [[-1], [1], [-4], [-1], [2], [2, 1, 2, 3, 4]])
        given = run([mean(0), gap(0, 0), see(0, 1, 2), widest(0), halves(0, 1, 1, 1, 1), least(0, 4), mean(0)])
        self.assertEqual(given, [[-5], [-5], [1], [-5], [-6], [-1], [0, 1, 1, 2, 1]])


class Unchanged(unittest.TestCase):
    def test_calls_7_to_19_change_no_sighting(self):
        calls = [hull(0), area(0), where(0, 1, 1), depth(0, 1, 1), layers(0), least(0, 3), extent(0, 3, -4), widest(0),
                 halves(0, 1, 1, 3, 4), mean(0)]
        calls += [make(a, b) for make in (overlap, meet, gap) for a in range(4) for b in range(4)]
        for call in calls:
            given = run(SETUP + told_all() + [call] + told_all())[len(SETUP):]
            self.assertEqual(given[5:], given[:4])


if __name__ == "__main__":
    unittest.main()

"""Numbers out of their range, the order of the refusals, and that nothing changes then."""

import unittest

from helper import (HIGH, LOW, NINE, area, clear, forget, hull, join, run, see, seen, shift,
                    told, told_all, turn, where)

NO_ANIMALS = (-1, 4, LOW, HIGH)
NO_NUMBERS = (-1001, 1001, LOW, HIGH)
SETUP = seen(0, NINE) + seen(1, [(1000, -1000), (5, 5)]) + seen(3, [(-1000, 1000)])


class Refusals(unittest.TestCase):
    def refused(self, call, number):
        given = run(SETUP + told_all() + [call] + told_all())[len(SETUP):]
        with self.subTest(call=call):
            self.assertEqual(given[4], [number])
            self.assertEqual(given[5:], given[:4])

    def test_animals(self):
        for a in NO_ANIMALS:
            for call in (told(a), clear(a), turn(a), hull(a), area(a), forget(a, 0)):
                self.refused(call, -1)
            for call in (see(a, 0, 0), shift(a, 0, 0), where(a, 0, 0)):
                self.refused(call, -1)
            for call in (join(a, 2, 2), join(2, a, 2), join(2, 2, a)):
                self.refused(call, -1)

    def test_places(self):
        for number in NO_NUMBERS:
            for a in (1, 2):
                for make in (see, shift, where):
                    self.refused(make(a, number, 0), -1)
                    self.refused(make(a, 0, number), -1)

    def test_places_at_the_ends_are_taken(self):
        for x in (-1000, 1000):
            for y in (-1000, 1000):
                given = run([see(2, x, y), told(2), where(2, x, y), clear(2), shift(2, x, y)])
                self.assertEqual(given, [[1], [1, x, y], [2], [1], [0]])

    def test_indexes(self):
        for i in (-1, LOW, HIGH):
            for a in range(4):
                self.refused(forget(a, i), -1)
        for a, count in enumerate((9, 2, 0, 1)):
            self.refused(forget(a, count), -1)

    def test_too_many(self):
        self.refused(see(0, 1, 1), -3)
        self.refused(join(0, 1, 2), -3)
        self.refused(join(0, 3, 3), -3)
        self.refused(join(1, 0, 0), -3)
        self.refused(join(0, 0, 0), -3)

    def test_over_the_edge(self):
        self.refused(shift(1, 1, 0), -4)
        self.refused(shift(1, 0, -1), -4)
        self.refused(shift(3, -1, 0), -4)
        self.refused(shift(3, 0, 1), -4)
        self.refused(shift(0, 1000, 0), -4)

    def test_out_of_range_comes_first(self):
        for number in NO_NUMBERS:
            self.refused(see(0, number, 1), -1)
            self.refused(see(0, 1, number), -1)
            self.refused(shift(1, number, -1), -1)
            self.refused(shift(1, 1, number), -1)
        for a in NO_ANIMALS:
            self.refused(join(0, 0, a), -1)
            self.refused(see(a, 1001, 0), -1)
            self.refused(forget(a, HIGH), -1)

    def test_what_comes_after_a_refusal_is_answered(self):
        given = run([see(4, 0, 0), see(0, 1, 2), shift(0, 1000, 0), forget(0, 1), see(0, 3, 4), told(0)])
        self.assertEqual(given, [[-1], [1], [-4], [-1], [2], [2, 1, 2, 3, 4]])


if __name__ == "__main__":
    unittest.main()

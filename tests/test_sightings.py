"""Calls 0 to 6: how the lists of sightings change."""

import unittest

from helper import NINE, clear, forget, join, last, run, see, seen, shift, told, told_all, turn

EMPTY = [0]


def listed(places):
    return [len(places)] + [number for place in places for number in place]


class Sightings(unittest.TestCase):
    def test_at_first_no_animal_has_a_sighting(self):
        self.assertEqual(run(told_all()), [EMPTY, EMPTY, EMPTY, EMPTY])

    def test_see_counts_up_and_keeps_the_order(self):
        places = [(3, -4), (-1000, 1000), (3, -4), (0, 0)]
        given = run(seen(2, places) + told_all())
        self.assertEqual(given[:4], [[1], [2], [3], [4]])
        self.assertEqual(given[4:], [EMPTY, EMPTY, listed(places), EMPTY])

    def test_see_takes_nine_and_no_tenth(self):
        given = run(seen(3, NINE) + [see(3, 5, 5), told(3), see(2, 5, 5)])
        self.assertEqual(given[:9], [[k] for k in range(1, 10)])
        self.assertEqual(given[9:], [[-3], listed(NINE), [1]])

    def test_see_again_after_a_forget(self):
        given = run(seen(0, NINE) + [forget(0, 0), see(0, 5, 5), told(0)])
        self.assertEqual(given[9:], [[8], [9], listed(NINE[1:] + [(5, 5)])])

    def test_told_of_nine(self):
        self.assertEqual(last(NINE, told(0)), listed(NINE))

    def test_forget_takes_out_any_one(self):
        for i in range(9):
            given = run(seen(0, NINE) + [forget(0, i), told(0)])
            self.assertEqual(given[9:], [[8], listed(NINE[:i] + NINE[i + 1:])])

    def test_forget_takes_one_of_equal_places(self):
        places = [(1, 2), (3, 4), (1, 2), (1, 2)]
        given = run(seen(0, places) + [forget(0, 2), told(0), forget(0, 0), told(0)])
        self.assertEqual(given[4:], [[3], listed([(1, 2), (3, 4), (1, 2)]), [2], listed([(3, 4), (1, 2)])])

    def test_forget_of_the_last_one_left(self):
        self.assertEqual(run([see(1, 1, 2), forget(1, 0), told(1), forget(1, 0)])[1:], [[0], EMPTY, [-1]])

    def test_forget_index_ends_with_the_sightings(self):
        for count in range(10):
            given = run(seen(0, NINE[:count]) + [forget(0, count), forget(0, -1), told(0)])
            self.assertEqual(given[count:], [[-1], [-1], listed(NINE[:count])])

    def test_forget_counts_the_right_animals_sightings(self):
        given = run(seen(0, NINE[:1]) + seen(1, NINE[:3]) + [forget(0, 1), forget(1, 2)])
        self.assertEqual(given[4:], [[-1], [2]])

    def test_clear(self):
        given = run(seen(0, NINE) + seen(1, [(7, 7)]) + [clear(0), clear(0), clear(2)] + told_all())
        self.assertEqual(given[10:13], [[9], [0], [0]])
        self.assertEqual(given[13:], [EMPTY, [1, 7, 7], EMPTY, EMPTY])

    def test_see_after_clear(self):
        self.assertEqual(run(seen(0, NINE) + [clear(0), see(0, 6, 7), told(0)])[9:], [[9], [1], [1, 6, 7]])


class Join(unittest.TestCase):
    def joined(self, first, second, call):
        return run(seen(0, first) + seen(1, second) + [call] + told_all())[-5:]

    def test_onto_a_third(self):
        one, two = NINE[:2], NINE[5:8]
        given = self.joined(one, two, join(0, 1, 2))
        self.assertEqual(given, [[5], listed(one), listed(two), listed(one + two), EMPTY])
        given = self.joined(one, two, join(1, 0, 2))
        self.assertEqual(given, [[5], listed(one), listed(two), listed(two + one), EMPTY])

    def test_the_third_loses_what_it_had(self):
        given = run([see(0, 1, 1), see(1, 2, 2)] + seen(3, NINE) + [join(0, 1, 3), told(3)])
        self.assertEqual(given[-2:], [[2], [2, 1, 1, 2, 2]])

    def test_onto_one_of_the_two(self):
        one, two = NINE[:2], NINE[5:8]
        self.assertEqual(self.joined(one, two, join(0, 1, 0))[:3], [[5], listed(one + two), listed(two)])
        self.assertEqual(self.joined(one, two, join(0, 1, 1))[:3], [[5], listed(one), listed(one + two)])

    def test_with_itself(self):
        one = NINE[:4]
        given = self.joined(one, [], join(0, 0, 2))
        self.assertEqual(given, [[8], listed(one), EMPTY, listed(one + one), EMPTY])
        given = self.joined(one, [], join(0, 0, 0))
        self.assertEqual(given, [[8], listed(one + one), EMPTY, EMPTY, EMPTY])

    def test_of_empty_lists(self):
        self.assertEqual(self.joined([], [], join(0, 1, 2)), [[0], EMPTY, EMPTY, EMPTY, EMPTY])
        self.assertEqual(self.joined([(1, 2)], [], join(2, 3, 0)), [[0], EMPTY, EMPTY, EMPTY, EMPTY])
        self.assertEqual(self.joined([(1, 2)], [], join(2, 0, 3)), [[1], [1, 1, 2], EMPTY, EMPTY, [1, 1, 2]])

    def test_nine_together_and_ten(self):
        self.assertEqual(self.joined(NINE[:4], NINE[4:], join(0, 1, 2))[0], [9])
        given = self.joined(NINE[:4], NINE[3:], join(0, 1, 2))
        self.assertEqual(given, [[-3], listed(NINE[:4]), listed(NINE[3:]), EMPTY, EMPTY])
        given = self.joined(NINE[:5], [(1, 1)], join(0, 0, 1))
        self.assertEqual(given, [[-3], listed(NINE[:5]), [1, 1, 1], EMPTY, EMPTY])
        self.assertEqual(self.joined(NINE, NINE, join(0, 1, 0))[:3], [[-3], listed(NINE), listed(NINE)])
        self.assertEqual(self.joined(NINE, [], join(0, 1, 1))[:3], [[9], listed(NINE), listed(NINE)])

    def test_afterwards_the_lists_go_their_own_ways(self):
        given = run([see(0, 1, 1), join(0, 1, 2), see(0, 2, 2), see(2, 3, 3), forget(2, 0)] + told_all())
        self.assertEqual(given[5:], [[2, 1, 1, 2, 2], EMPTY, [1, 3, 3], EMPTY])


class ShiftAndTurn(unittest.TestCase):
    def after(self, places, call):
        return run(seen(1, [(9, 9)]) + seen(0, places) + [call, told(0), told(1)])[-3:]

    def test_shift_moves_each(self):
        given = self.after([(1, 2), (-3, 4), (1, 2)], shift(0, 10, -20))
        self.assertEqual(given, [[0], [3, 11, -18, 7, -16, 11, -18], [1, 9, 9]])

    def test_shift_of_none_and_by_nothing(self):
        self.assertEqual(self.after([], shift(0, 1000, -1000)), [[0], EMPTY, [1, 9, 9]])
        self.assertEqual(self.after(NINE, shift(0, 0, 0)), [[0], listed(NINE), [1, 9, 9]])

    def test_shift_up_to_the_edge(self):
        places = [(0, 0), (400, -300)]
        self.assertEqual(self.after(places, shift(0, 600, 0))[:2], [[0], [2, 600, 0, 1000, -300]])
        self.assertEqual(self.after(places, shift(0, -1000, 0))[:2], [[0], [2, -1000, 0, -600, -300]])
        self.assertEqual(self.after(places, shift(0, 0, 1000))[:2], [[0], [2, 0, 1000, 400, 700]])
        self.assertEqual(self.after(places, shift(0, 0, -700))[:2], [[0], [2, 0, -700, 400, -1000]])

    def test_shift_from_edge_to_edge(self):
        given = run([see(0, -1000, 1000), shift(0, 1000, -1000), shift(0, 1000, -1000), told(0)])
        self.assertEqual(given[1:], [[0], [0], [1, 1000, -1000]])

    def test_shift_over_the_edge_moves_none(self):
        places = [(0, 0), (400, -300), (-1000, 1000)]
        for x, y in ((601, 0), (-1, 0), (0, 1), (0, -701), (1000, -1000)):
            self.assertEqual(self.after(places, shift(0, x, y)), [[-4], listed(places), [1, 9, 9]])

    def test_shift_looks_at_every_sighting(self):
        for k in range(9):
            places = [(1000, 1000) if other == k else (0, 0) for other in range(9)]
            self.assertEqual(self.after(places, shift(0, 1, 0)), [[-4], listed(places), [1, 9, 9]])

    def test_turn(self):
        given = self.after([(1, 2), (-3, 4), (1000, -1000), (0, 0), (0, 5)], turn(0))
        self.assertEqual(given, [[0], [5, -2, 1, -4, -3, 1000, 1000, 0, 0, -5, 0], [1, 9, 9]])

    def test_turn_of_none(self):
        self.assertEqual(self.after([], turn(0)), [[0], EMPTY, [1, 9, 9]])

    def test_four_turns_are_none(self):
        given = run(seen(0, NINE) + [turn(0)] * 4 + [told(0)])
        self.assertEqual(given[-1], listed(NINE))


if __name__ == "__main__":
    unittest.main()

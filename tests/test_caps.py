import itertools
import unittest

from usher.caps import above, cap_of, caps_of

GREAT = 10 ** 9
WEIGHT_LISTS = ([1], [20], [1, 1], [1, 2, 3], [7, 7, 7], [20, 1, 13, 4], [1] * 30, [20] * 30, list(range(1, 21)))


class CapTest(unittest.TestCase):
    def assert_least(self, many, weight, whole, extra):
        cap = cap_of(many, weight, whole, extra)
        with self.subTest(many=many, weight=weight, whole=whole, extra=extra):
            self.assertIs(type(cap), int)
            # The point's inequality, for the cap and for one less.
            asked = many * weight * (100 + extra)
            self.assertGreaterEqual(cap * 100 * whole, asked)
            self.assertLess((cap - 1) * 100 * whole, asked)

    def test_where_it_comes_out_even(self):
        self.assertEqual(cap_of(10, 1, 2, 0), 5)
        self.assertEqual(cap_of(10, 1, 1, 0), 10)
        self.assertEqual(cap_of(200, 1, 4, 100), 100)
        self.assertEqual(cap_of(4, 5, 10, 50), 3)
        self.assertEqual(cap_of(100, 1, 1, 1), 101)

    def test_where_it_does_not(self):
        self.assertEqual(cap_of(11, 1, 2, 0), 6)
        self.assertEqual(cap_of(1, 1, 600, 0), 1)
        self.assertEqual(cap_of(10, 1, 3, 0), 4)
        self.assertEqual(cap_of(10, 2, 3, 0), 7)
        self.assertEqual(cap_of(1, 1, 1, 1), 2)
        self.assertEqual(cap_of(101, 1, 1, 1), 103)
        self.assertEqual(cap_of(4, 5, 10, 51), 4)

    def test_many_0(self):
        for weight, whole, extra in itertools.product((1, 20), (1, 20, 600, GREAT), (0, 1, 1000)):
            self.assertEqual(cap_of(0, weight, whole, extra), 0)

    def test_extra_0_and_1000(self):
        self.assertEqual(cap_of(7, 3, 7, 0), 3)
        self.assertEqual(cap_of(7, 3, 7, 1000), 33)
        self.assertEqual(cap_of(1, 1, 12, 1000), 1)
        self.assertEqual(cap_of(1, 1, 11, 1000), 1)
        self.assertEqual(cap_of(1, 1, 10, 1000), 2)

    def test_great_numbers(self):
        self.assertEqual(cap_of(GREAT, 1, 1, 0), GREAT)
        self.assertEqual(cap_of(GREAT, 20, 1, 1000), 220 * GREAT)
        self.assertEqual(cap_of(GREAT, 1, GREAT, 0), 1)
        self.assertEqual(cap_of(GREAT, 1, GREAT, 1), 2)
        self.assertEqual(cap_of(GREAT - 1, 1, GREAT, 0), 1)
        # So near to a whole number that a division with a rounded rest would miss it.
        self.assertEqual(cap_of(GREAT, GREAT, GREAT - 1, 0), GREAT + 2)
        self.assertEqual(cap_of(GREAT, GREAT - 1, GREAT, 0), GREAT - 1)
        self.assertEqual(cap_of(GREAT - 1, GREAT - 1, GREAT, 0), GREAT - 1)

    def test_the_inequality(self):
        manys = (0, 1, 2, 3, 99, 100, 101, 200, GREAT - 1, GREAT)
        weights = (1, 2, 7, 19, 20)
        wholes = (1, 2, 7, 20, 33, 600, GREAT - 1, GREAT)
        for many, weight, whole, extra in itertools.product(manys, weights, wholes, (0, 1, 25, 99, 100, 1000)):
            self.assert_least(many, weight, whole, extra)

    def test_the_inequality_for_each_small_number(self):
        for many, weight, whole, extra in itertools.product(range(25), range(1, 6), range(1, 13), (0, 10, 33)):
            self.assert_least(many, weight, whole, extra)


class CapsTest(unittest.TestCase):
    def test_no_weights(self):
        for many, extra in itertools.product((0, 1, 200, GREAT), (0, 1000)):
            self.assertEqual(caps_of(many, [], extra), [])

    def test_known_caps(self):
        self.assertEqual(caps_of(10, [1], 0), [10])
        self.assertEqual(caps_of(10, [1, 1, 1], 0), [4, 4, 4])
        self.assertEqual(caps_of(12, [1, 2, 3], 0), [2, 4, 6])
        self.assertEqual(caps_of(12, [3, 1, 2], 25), [8, 3, 5])
        self.assertEqual(caps_of(0, [3, 1, 2], 1000), [0, 0, 0])

    def test_each_is_the_cap_of_its_weight_in_the_sum(self):
        for weights, many, extra in itertools.product(WEIGHT_LISTS, (0, 1, 7, 200, GREAT), (0, 1, 25, 1000)):
            caps = caps_of(many, weights, extra)
            whole = sum(weights)
            self.assertEqual(caps, [cap_of(many, weight, whole, extra) for weight in weights])

    def test_they_come_to_many_at_the_least(self):
        for weights, extra in itertools.product(WEIGHT_LISTS, (0, 1, 1000)):
            for many in itertools.chain(range(202), (GREAT - 1, GREAT)):
                self.assertGreaterEqual(sum(caps_of(many, weights, extra)), many)

    def test_what_is_handed_in_stays_and_what_is_told_is_new(self):
        for weights in ([],) + WEIGHT_LISTS:
            kept = list(weights)
            told = caps_of(9, weights, 10)
            same = list(told)
            self.assertIs(type(told), list)
            self.assertTrue(all([type(cap) is int for cap in told]))
            self.assertEqual(weights, kept)
            told.append(7)
            self.assertEqual(weights, kept)
            self.assertEqual(caps_of(9, weights, 10), same)


class AboveTest(unittest.TestCase):
    def test_no_places(self):
        self.assertEqual(above([], []), [])

    def test_above_at_and_below(self):
        self.assertEqual(above([6], [5]), [1])
        self.assertEqual(above([5], [5]), [0])
        self.assertEqual(above([4], [5]), [0])
        self.assertEqual(above([9, 5, 0, 7], [5, 5, 5, 6]), [4, 0, 0, 1])
        self.assertEqual(above([0, 0], [0, 1]), [0, 0])

    def test_great_numbers(self):
        self.assertEqual(above([GREAT, 0, GREAT], [0, GREAT, GREAT - 1]), [GREAT, 0, 1])
        self.assertEqual(above([220 * GREAT], [219 * GREAT]), [GREAT])

    def test_thirty_places(self):
        self.assertEqual(above(list(range(30)), [15] * 30), [0] * 16 + list(range(1, 15)))

    def test_what_is_handed_in_stays_and_what_is_told_is_new(self):
        for held, caps in (([], []), ([3, 0], [0, 0]), ([1, 2, 3], [2, 2, 2])):
            kept = (list(held), list(caps))
            told = above(held, caps)
            same = list(told)
            self.assertIs(type(told), list)
            self.assertEqual((held, caps), kept)
            told.append(7)
            self.assertEqual((held, caps), kept)
            self.assertEqual(above(held, caps), same)


if __name__ == "__main__":
    unittest.main()

import itertools
import unittest
from fractions import Fraction

from by_words import dealt as dealt_by_words
from usher.caps import caps_of
from usher.dealing import dealt, height, is_lighter
from usher.errors import NoLine, NoRoom, NoServer, Twice, Unknown, UsherError

GREAT = 10 ** 9


def small_cases():
    # Three places with held, weights and caps of many small kinds.
    helds = itertools.product((0, 1, 3), repeat=3)
    weights = ((1, 1, 1), (1, 2, 3), (3, 2, 1), (2, 2, 5), (20, 1, 7))
    caps = ((0, 0, 0), (1, 2, 3), (4, 0, 2), (3, 3, 3), (5, 5, 5))
    for held, weight, cap in itertools.product(helds, weights, caps):
        yield list(held), list(weight), list(cap)


def rooms(held, caps):
    return [cap - number if cap > number else 0 for number, cap in zip(held, caps)]


def got_of(places, length):
    return [places.count(place) for place in range(length)]


def height_by_words(held, weights, got):
    loads = [Fraction(number + more, weight) for number, weight, more in zip(held, weights, got) if more > 0]
    top = max(loads, default=Fraction(0))
    return (top.numerator, top.denominator)


class LighterTest(unittest.TestCase):
    def assert_told(self, truth, a, v, b, w):
        with self.subTest(a=a, v=v, b=b, w=w):
            self.assertIs(is_lighter(a, v, b, w), truth)

    def test_like_weights(self):
        self.assert_told(True, 1, 1, 2, 1)
        self.assert_told(False, 2, 1, 1, 1)
        self.assert_told(False, 2, 1, 2, 1)

    def test_loads_that_are_alike_by_different_weights(self):
        for a, v, b, w in ((1, 2, 2, 4), (3, 1, 60, 20), (2, 3, 4, 6), (0, 1, 0, 20), (7, 7, 1, 1)):
            self.assert_told(False, a, v, b, w)
            self.assert_told(False, b, w, a, v)

    def test_unlike_loads_by_different_weights(self):
        self.assert_told(True, 3, 20, 1, 1)
        self.assert_told(False, 1, 1, 3, 20)
        self.assert_told(True, 1, 3, 2, 5)
        self.assert_told(False, 2, 5, 1, 3)
        self.assert_told(True, 0, 20, 1, 20)
        self.assert_told(True, 0, 1, 1, 20)

    def test_great_numbers(self):
        self.assert_told(True, GREAT - 1, 1, GREAT, 1)
        self.assert_told(False, GREAT, 20, GREAT, 20)
        # These lie too near to one another for a division with a rounded rest.
        self.assert_told(True, GREAT - 2, GREAT - 1, GREAT - 1, GREAT)
        self.assert_told(False, GREAT - 1, GREAT, GREAT - 2, GREAT - 1)
        self.assert_told(True, 10 ** 18, 3, 10 ** 18 + 1, 3)

    def test_by_fractions(self):
        for a, v, b, w in itertools.product(range(6), range(1, 6), range(6), range(1, 6)):
            self.assert_told(Fraction(a, v) < Fraction(b, w), a, v, b, w)


class DealtTest(unittest.TestCase):
    def test_no_places(self):
        self.assertEqual(dealt([], [], [], 0), [])

    def test_none_dealt(self):
        self.assertEqual(dealt([0], [1], [0], 0), [])
        self.assertEqual(dealt([0, 5], [1, 2], [3, 3], 0), [])
        self.assertEqual(dealt([9, 9], [1, 2], [3, 3], 0), [])

    def test_like_ones_go_to_the_first_place(self):
        self.assertEqual(dealt([0, 0, 0], [1, 1, 1], [2, 2, 2], 6), [0, 1, 2, 0, 1, 2])
        self.assertEqual(dealt([1, 0, 0], [1, 1, 1], [9, 9, 9], 4), [1, 2, 0, 1])
        # One more makes 2 with the weight 2 and 1 with the weight 1: alike.
        self.assertEqual(dealt([1, 0], [2, 1], [9, 9], 1), [0])
        self.assertEqual(dealt([0, 1], [1, 2], [9, 9], 1), [0])

    def test_the_one_more_counts_in_the_load(self):
        # Empty ones are alike as they stand; with one more the greater weight is lighter.
        self.assertEqual(dealt([0, 0], [1, 3], [9, 9], 4), [1, 1, 0, 1])
        # As they stand 2 with 4 is heavier than 0 with 1; with one more it is lighter.
        self.assertEqual(dealt([0, 2], [1, 4], [9, 9], 1), [1])

    def test_full_places_are_passed_over(self):
        self.assertEqual(dealt([0, 0], [1, 1], [1, 3], 4), [0, 1, 1, 1])
        self.assertEqual(dealt([0, 0], [20, 1], [0, 2], 2), [1, 1])

    def test_caps_below_what_is_held(self):
        self.assertEqual(dealt([9, 0], [20, 1], [3, 2], 2), [1, 1])
        self.assertEqual(dealt([0, 9, 9], [1, 1, 1], [2, 0, 8], 2), [0, 0])

    def test_just_the_room_and_one_more(self):
        for held, weights, caps, room in (
            ([], [], [], 0),
            ([0], [1], [0], 0),
            ([0], [1], [5], 5),
            ([5], [1], [5], 0),
            ([6], [1], [5], 0),
            ([2, 1], [1, 9], [5, 5], 7),
            # What one holds above its cap takes nothing from the others' room.
            ([9, 0], [1, 1], [3, 2], 2),
            ([GREAT, 0], [1, 1], [0, 3], 3),
            ([0] * 30, [1] * 30, [5] * 30, 150),
        ):
            with self.subTest(held=held, caps=caps):
                places = dealt(held, weights, caps, room)
                self.assertEqual(got_of(places, len(held)), rooms(held, caps))
                for many in (room + 1, room + 2, room + 200):
                    with self.assertRaises(NoRoom):
                        dealt(held, weights, caps, many)

    def test_the_refusal(self):
        for held, weights, caps in (([], [], []), ([0], [1], [0]), ([9, 0], [1, 1], [3, 0])):
            with self.assertRaises(NoRoom) as caught:
                dealt(held, weights, caps, 1)
            self.assertIs(type(caught.exception), NoRoom)
            self.assertIsInstance(caught.exception, UsherError)
            self.assertIsInstance(caught.exception, ValueError)
            for other in (Twice, Unknown, NoServer, NoLine):
                self.assertNotIsInstance(caught.exception, other)

    def test_small_dealings_by_the_words_of_the_document(self):
        for held, weights, caps in small_cases():
            room = sum(rooms(held, caps))
            for many in range(room + 1):
                self.assertEqual(dealt(held, weights, caps, many), dealt_by_words(held, weights, caps, many))
            with self.assertRaises(NoRoom):
                dealt(held, weights, caps, room + 1)

    def test_the_most_that_is_dealt_at_once(self):
        held = [place * 13 % 17 for place in range(30)]
        weights = [1 + place * 7 % 20 for place in range(30)]
        caps = caps_of(sum(held) + 200, weights, 10)
        self.assertGreaterEqual(sum(rooms(held, caps)), 200)
        self.assertEqual(dealt(held, weights, caps, 200), dealt_by_words(held, weights, caps, 200))

    def test_great_numbers(self):
        self.assertEqual(dealt([GREAT - 1, GREAT - 2], [1, 1], [GREAT, GREAT], 3), [1, 0, 1])
        self.assertEqual(dealt([GREAT - 3, 0], [20, 1], [GREAT, 1], 2), [1, 0])
        self.assertEqual(dealt([0, 0], [1, 1], [GREAT, GREAT], 200), [0, 1] * 100)

    def test_what_is_handed_in_stays_and_what_is_told_is_new(self):
        held, weights, caps = [0, 4, 1], [1, 2, 3], [2, 3, 4]
        told = dealt(held, weights, caps, 4)
        same = list(told)
        self.assertIs(type(told), list)
        self.assertTrue(all([type(place) is int for place in told]))
        self.assertEqual((held, weights, caps), ([0, 4, 1], [1, 2, 3], [2, 3, 4]))
        told.append(7)
        self.assertEqual((held, weights, caps), ([0, 4, 1], [1, 2, 3], [2, 3, 4]))
        self.assertEqual(dealt(held, weights, caps, 4), same)

    def test_what_is_handed_in_stays_where_it_is_refused(self):
        held, weights, caps = [0, 4, 1], [1, 2, 3], [2, 3, 4]
        with self.assertRaises(NoRoom):
            dealt(held, weights, caps, 6)
        self.assertEqual((held, weights, caps), ([0, 4, 1], [1, 2, 3], [2, 3, 4]))

    def test_none_dealt_is_a_new_list(self):
        held, weights, caps = [], [], []
        dealt(held, weights, caps, 0).append(7)
        self.assertEqual((held, weights, caps), ([], [], []))
        self.assertEqual(dealt(held, weights, caps, 0), [])


class HeightTest(unittest.TestCase):
    def assert_height(self, told, top_and_bottom):
        self.assertIs(type(told), tuple)
        self.assertEqual([type(thing) for thing in told], [int, int])
        self.assertEqual(told, top_and_bottom)

    def test_none_got_any(self):
        self.assert_height(height([], [], []), (0, 1))
        self.assert_height(height([0], [20], [0]), (0, 1))
        self.assert_height(height([5, 200, 0], [2, 1, 20], [0, 0, 0]), (0, 1))

    def test_the_least_numbers_of_top_and_bottom(self):
        self.assert_height(height([5], [10], [5]), (1, 1))
        self.assert_height(height([2], [6], [2]), (2, 3))
        self.assert_height(height([3], [2], [4]), (7, 2))
        self.assert_height(height([0], [20], [1]), (1, 20))
        self.assert_height(height([0], [20], [200]), (10, 1))
        self.assert_height(height([90], [18], [30]), (20, 3))

    def test_only_places_that_got_any_count(self):
        self.assert_height(height([200, 0], [1, 2], [0, 1]), (1, 2))
        self.assert_height(height([0, 200, 3], [1, 1, 4], [1, 0, 2]), (5, 4))

    def test_what_was_held_counts(self):
        self.assert_height(height([7, 0], [1, 1], [1, 5]), (8, 1))

    def test_the_heaviest_by_weight_in_any_place(self):
        for order in itertools.permutations(range(3)):
            held, weights, got = [1, 6, 2], [2, 20, 3], [1, 3, 1]
            turned = [[things[place] for place in order] for things in (held, weights, got)]
            self.assert_height(height(*turned), (1, 1))
        self.assert_height(height([10, 1], [20, 1], [10, 1]), (2, 1))
        self.assert_height(height([1, 10], [1, 20], [1, 10]), (2, 1))

    def test_loads_that_are_alike(self):
        self.assert_height(height([1, 3], [4, 8], [1, 1]), (1, 2))
        self.assert_height(height([3, 1], [8, 4], [1, 1]), (1, 2))

    def test_great_numbers(self):
        self.assert_height(height([GREAT], [20], [200]), (50000010, 1))
        self.assert_height(height([GREAT, GREAT], [7, 7], [1, 2]), (GREAT + 2, 7))

    def test_by_fractions(self):
        helds = itertools.product((0, 1, 5), repeat=3)
        gots = itertools.product((0, 1, 4), repeat=3)
        for held, got in itertools.product(helds, gots):
            for weights in ((1, 1, 1), (1, 2, 3), (6, 4, 10), (20, 1, 7)):
                told = height(list(held), list(weights), list(got))
                self.assert_height(told, height_by_words(held, weights, got))

    def test_no_other_dealing_within_the_caps_is_lighter(self):
        for held, weights, caps in small_cases():
            ways = {}
            for got in itertools.product(*[range(room + 1) for room in rooms(held, caps)]):
                top, bottom = height_by_words(held, weights, got)
                ways.setdefault(sum(got), []).append(Fraction(top, bottom))
            for many, heights in ways.items():
                got = got_of(dealt(held, weights, caps, many), 3)
                self.assertEqual(sum(got), many)
                self.assertTrue(all([more <= room for more, room in zip(got, rooms(held, caps))]))
                top, bottom = height(held, weights, got)
                self.assertEqual(Fraction(top, bottom), min(heights))

    def test_what_is_handed_in_stays(self):
        held, weights, got = [0, 4, 1], [1, 2, 3], [2, 0, 4]
        first = height(held, weights, got)
        self.assertEqual((held, weights, got), ([0, 4, 1], [1, 2, 3], [2, 0, 4]))
        self.assertEqual(height(held, weights, got), first)


if __name__ == "__main__":
    unittest.main()

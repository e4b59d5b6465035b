import itertools
import unittest

from usher.looks import health_of, looked

COUNTS = (1, 2, 3, 5, 99, 100)


def runs(*pieces):
    looks = []
    for good, many in pieces:
        looks += [good] * many
    return looks


def health_by_words(looks, rise, fall):
    # Point 16 read otherwise: the looks since the word last changed, and how many at their end spoke against it.
    word, since = "well", []
    for good in looks:
        since.append(good)
        against = since[-fall:] == [False] * fall if word == "well" else since[-rise:] == [True] * rise
        if against:
            word, since = ("ill" if word == "well" else "well"), []
    speaks_for = word == "well"
    row = len(list(itertools.takewhile(lambda good: good is not speaks_for, reversed(since))))
    return (word, row)


class LookTest(unittest.TestCase):
    def assert_health(self, told, health):
        self.assertIs(type(told), tuple)
        self.assertEqual([type(thing) for thing in told], [str, int])
        self.assertEqual(told, health)

    def test_a_well_one_and_a_good_look(self):
        for rise, fall in itertools.product(COUNTS, COUNTS):
            for row in range(fall):
                self.assert_health(looked(("well", row), True, rise, fall), ("well", 0))

    def test_a_well_one_and_a_bad_look(self):
        for rise, fall in itertools.product(COUNTS, COUNTS):
            for row in range(fall - 1):
                self.assert_health(looked(("well", row), False, rise, fall), ("well", row + 1))
            self.assert_health(looked(("well", fall - 1), False, rise, fall), ("ill", 0))

    def test_an_ill_one_and_a_bad_look(self):
        for rise, fall in itertools.product(COUNTS, COUNTS):
            for row in range(rise):
                self.assert_health(looked(("ill", row), False, rise, fall), ("ill", 0))

    def test_an_ill_one_and_a_good_look(self):
        for rise, fall in itertools.product(COUNTS, COUNTS):
            for row in range(rise - 1):
                self.assert_health(looked(("ill", row), True, rise, fall), ("ill", row + 1))
            self.assert_health(looked(("ill", rise - 1), True, rise, fall), ("well", 0))

    def test_rise_and_fall_1(self):
        self.assert_health(looked(("well", 0), False, 1, 1), ("ill", 0))
        self.assert_health(looked(("well", 0), True, 1, 1), ("well", 0))
        self.assert_health(looked(("ill", 0), True, 1, 1), ("well", 0))
        self.assert_health(looked(("ill", 0), False, 1, 1), ("ill", 0))

    def test_rise_and_fall_are_not_mistaken(self):
        self.assert_health(looked(("well", 1), False, 2, 3), ("well", 2))
        self.assert_health(looked(("well", 1), False, 3, 2), ("ill", 0))
        self.assert_health(looked(("ill", 1), True, 2, 3), ("well", 0))
        self.assert_health(looked(("ill", 1), True, 3, 2), ("ill", 2))


class HealthTest(unittest.TestCase):
    def test_no_looks(self):
        for rise, fall in itertools.product(COUNTS, COUNTS):
            self.assertEqual(health_of([], rise, fall), ("well", 0))

    def test_runs(self):
        for pieces, health in (
            ([(True, 9)], ("well", 0)),
            ([(False, 1)], ("well", 1)),
            ([(False, 2)], ("well", 2)),
            ([(False, 3)], ("ill", 0)),
            ([(False, 9)], ("ill", 0)),
            ([(False, 2), (True, 1), (False, 2)], ("well", 2)),
            ([(False, 2), (True, 1), (False, 3)], ("ill", 0)),
            ([(False, 3), (True, 1)], ("ill", 1)),
            ([(False, 3), (True, 1), (False, 1), (True, 1)], ("ill", 1)),
            ([(False, 3), (True, 2)], ("well", 0)),
            ([(False, 3), (True, 9)], ("well", 0)),
            ([(False, 3), (True, 2), (False, 2)], ("well", 2)),
            ([(False, 4), (True, 2), (False, 3)], ("ill", 0)),
        ):
            with self.subTest(pieces=pieces):
                self.assertEqual(health_of(runs(*pieces), 2, 3), health)

    def test_rise_and_fall_1(self):
        for length in range(1, 7):
            for looks in itertools.product((True, False), repeat=length):
                word = "well" if looks[-1] else "ill"
                self.assertEqual(health_of(list(looks), 1, 1), (word, 0))

    def test_rise_and_fall_100(self):
        self.assertEqual(health_of(runs((False, 99)), 100, 100), ("well", 99))
        self.assertEqual(health_of(runs((False, 100)), 100, 100), ("ill", 0))
        self.assertEqual(health_of(runs((False, 100), (True, 99)), 100, 100), ("ill", 99))
        self.assertEqual(health_of(runs((False, 100), (True, 100)), 100, 100), ("well", 0))

    def test_every_short_list(self):
        for rise, fall in itertools.product((1, 2, 3), (1, 2, 3, 4)):
            for length in range(10):
                for looks in itertools.product((True, False), repeat=length):
                    self.assertEqual(health_of(list(looks), rise, fall), health_by_words(looks, rise, fall))

    def test_it_is_the_looks_one_by_one(self):
        looks = [place * place % 7 < 3 for place in range(200)]
        health = ("well", 0)
        for place, good in enumerate(looks):
            health = looked(health, good, 3, 2)
            self.assertEqual(health_of(looks[:place + 1], 3, 2), health)

    def test_what_is_handed_in_stays(self):
        looks = runs((False, 4), (True, 3), (False, 1))
        kept = list(looks)
        first = health_of(looks, 2, 3)
        self.assertEqual(looks, kept)
        self.assertEqual(health_of(looks, 2, 3), first)


if __name__ == "__main__":
    unittest.main()

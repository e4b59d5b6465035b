import copy
import itertools
import random
import unittest

import by_words
from usher.choosing import chosen, free, is_live

SIGNS = by_words.SIGNS
SIZES = (1, 2, 7, 100, 10 ** 9)
EXTRAS = (0, 1, 25, 100, 1000)


def server(name, zone="x", weight=1, word="well", drains=False, held=0):
    return (name, zone, weight, word, drains, held)


def asker_with_row(servers, size, row):
    # An asker whose row over all servers is the one that is wanted.
    for signs in itertools.product(SIGNS[:26], repeat=3):
        asker = "".join(signs)
        if by_words.row(servers, asker, size) == row:
            return asker
    raise LookupError(row)


def some_servers(chance):
    servers = []
    for place in range(chance.choice((0, 1, 2, 3, 5, 30))):
        servers.append(server(
            "s" + SIGNS[place],
            chance.choice(("x", "y", "z")),
            chance.choice((1, 1, 2, 3, 20)),
            chance.choice(("well", "well", "well", "ill")),
            chance.choice((False, False, False, True)),
            chance.choice((0, 0, 1, 2, 3, 9, 200)),
        ))
    return servers


class LiveTest(unittest.TestCase):
    def test_well_and_not_draining(self):
        for held in (0, 1, 200):
            for weight in (1, 20):
                self.assertIs(is_live(server("a", "x", weight, "well", False, held)), True)
                self.assertIs(is_live(server("a", "x", weight, "well", True, held)), False)
                self.assertIs(is_live(server("a", "x", weight, "ill", False, held)), False)
                self.assertIs(is_live(server("a", "x", weight, "ill", True, held)), False)

    def test_names_that_look_like_words(self):
        self.assertIs(is_live(server("ill", "ill")), True)
        self.assertIs(is_live(server("well", "well", 1, "ill")), False)


class FreeTest(unittest.TestCase):
    def test_no_servers(self):
        for extra in EXTRAS:
            self.assertEqual(free([], extra), [])

    def test_none_is_live(self):
        for extra in EXTRAS:
            self.assertEqual(free([server("a", word="ill")], extra), [])
            self.assertEqual(free([server("a", drains=True)], extra), [])
            both = server("a", word="ill", drains=True)
            self.assertEqual(free([both, server("b", drains=True), server("c", word="ill", held=3)], extra), [])

    def test_one_server(self):
        for extra in EXTRAS:
            for weight in (1, 20):
                for held in (0, 1, 199, 200):
                    self.assertEqual(free([server("a", "x", weight, "well", False, held)], extra), ["a"])

    def test_where_one_is_live_one_is_free(self):
        chance = random.Random(18)
        for turn in range(500):
            servers = some_servers(chance)
            for extra in EXTRAS:
                self.assertEqual(len(free(servers, extra)) > 0, any([is_live(one) for one in servers]))

    def test_below_at_and_above_the_cap(self):
        # Counted are 2 + 3 + 4 and one more: 10, by the weights 1, 1, 2 caps of 3, 3 and 5.
        servers = [server("a", held=2), server("b", held=3), server("c", weight=2, held=4)]
        self.assertEqual(free(servers, 0), ["a", "c"])
        # 3 + 4 + 2 and one more: a stands at its cap, b above it, c below.
        servers = [server("a", held=3), server("b", held=4), server("c", weight=2, held=2)]
        self.assertEqual(free(servers, 0), ["c"])
        # 2 + 2 and one more: caps of 3 and 3.
        self.assertEqual(free([server("a", held=2), server("b", held=2)], 0), ["a", "b"])
        # 1 + 2 and one more: caps of 2 and 2.
        self.assertEqual(free([server("a", held=1), server("b", held=2)], 0), ["a"])

    def test_the_one_more_is_counted(self):
        # Without it the caps would be 0, and 1 and 1.
        self.assertEqual(free([server("a"), server("b")], 0), ["a", "b"])
        self.assertEqual(free([server("a", held=1), server("b", held=1)], 0), ["a", "b"])

    def test_extra(self):
        servers = [server("a", held=9), server("b"), server("c")]
        # Ten are counted: caps of 4, 7 and 37.
        self.assertEqual(free(servers, 0), ["b", "c"])
        self.assertEqual(free(servers, 100), ["b", "c"])
        self.assertEqual(free(servers, 1000), ["a", "b", "c"])
        # Of 10 by a third, 170 per hundred more make 9 just so, 171 a tenth.
        self.assertEqual(free(servers, 170), ["b", "c"])
        self.assertEqual(free(servers, 171), ["a", "b", "c"])

    def test_only_live_ones_count(self):
        # What ill and draining ones weigh and hold is no part of it.
        servers = [server("a", held=1), server("b", weight=20, drains=True, held=200), server("c"),
                   server("d", weight=20, word="ill", held=7)]
        self.assertEqual(free(servers, 0), ["c"])
        self.assertEqual(free(servers[:2], 0), ["a"])

    def test_in_their_order(self):
        names = ["z", "a", "m", "b9"]
        for order in itertools.permutations(names):
            self.assertEqual(free([server(name) for name in order], 0), list(order))

    def test_by_the_words_of_the_document(self):
        chance = random.Random(17)
        for turn in range(500):
            servers = some_servers(chance)
            for extra in EXTRAS:
                self.assertEqual(free(servers, extra), by_words.free(servers, extra))

    def test_what_is_handed_in_stays_and_what_is_told_is_new(self):
        for servers in ([], [server("a"), server("b", drains=True), server("c", held=2)]):
            kept = copy.deepcopy(servers)
            told = free(servers, 0)
            same = list(told)
            self.assertIs(type(told), list)
            self.assertEqual(servers, kept)
            told.append("q")
            self.assertEqual(servers, kept)
            self.assertEqual(free(servers, 0), same)


class ChosenTest(unittest.TestCase):
    def test_none_is_free(self):
        for size in SIZES:
            for extra in EXTRAS:
                self.assertIsNone(chosen([], "u", "x", size, extra))
                self.assertIsNone(chosen([server("a", word="ill")], "u", "x", size, extra))
                self.assertIsNone(chosen([server("a", drains=True), server("b", "y", 9, "ill")], "u", "y", size, extra))

    def test_one_that_can_be_chosen(self):
        for size in SIZES:
            for extra in EXTRAS:
                self.assertEqual(chosen([server("a", held=200)], "u", "x", size, extra), "a")
                self.assertEqual(chosen([server("a", held=200)], "u", "other", size, extra), "a")
                servers = [server("a", word="ill"), server("b", held=5), server("c", drains=True)]
                self.assertEqual(chosen(servers, "u", "x", size, extra), "b")

    def test_a_zone_with_free_servers(self):
        # The one of the zone is taken, also where others are lighter and ahead in the row.
        servers = [server("a", "x", held=1), server("b", "y", held=0), server("c", "z", held=0)]
        for asker in ("u", "v", "w", "a", "b", "c"):
            self.assertEqual(chosen(servers, asker, "x", 100, 1000), "a")
            self.assertEqual(chosen(servers, asker, "y", 100, 1000), "b")
            self.assertEqual(chosen(servers, asker, "z", 100, 1000), "c")

    def test_a_zone_with_none_free(self):
        # Counted are 5: a, of the zone, stands above its cap of 3 already.
        servers = [server("a", "x", held=4), server("b", "y", held=0)]
        self.assertEqual(chosen(servers, "u", "x", 100, 0), "b")
        for away in (server("c", "x", 20, "ill"), server("c", "x", 20, "well", True)):
            self.assertEqual(chosen([away, server("b", "y")], "u", "x", 100, 0), "b")

    def test_a_zone_without_servers(self):
        servers = [server("a", "x", held=1), server("b", "y", held=0)]
        for first in (["a", "b"], ["b", "a"]):
            asker = asker_with_row(servers, 100, first)
            self.assertEqual(chosen(servers, asker, "none", 100, 1000), "b")
            # A server's name is no zone.
            self.assertEqual(chosen(servers, asker, "a", 100, 1000), "b")

    def test_two_by_their_loads(self):
        for first, second in (("web1", "db"), ("db", "web1")):
            for held, weights, taken in (
                ((0, 0), (1, 1), 0),
                ((1, 0), (1, 1), 1),
                ((0, 1), (1, 1), 0),
                ((3, 3), (1, 1), 0),
                # Alike by their weights.
                ((2, 4), (1, 2), 0),
                ((4, 2), (2, 1), 0),
                ((0, 0), (1, 20), 0),
                ((0, 0), (20, 1), 0),
                # As they hold, not with one more.
                ((1, 3), (1, 4), 1),
                ((3, 1), (4, 1), 0),
                ((2, 5), (1, 2), 0),
                ((5, 2), (2, 1), 1),
            ):
                servers = [server(first, "x", weights[0], "well", False, held[0]),
                           server(second, "x", weights[1], "well", False, held[1])]
                asker = asker_with_row(servers, 10 ** 9, [first, second])
                for order in (servers, servers[::-1]):
                    with self.subTest(servers=order):
                        name = chosen(order, asker, "x", 10 ** 9, 1000)
                        self.assertEqual(name, (first, second)[taken])

    def test_only_the_first_two_in_the_row_are_looked_at(self):
        held = {"web1": 3, "tmp77": 2, "mail": 0, "b9": 1}
        servers = [server(name, "x", 20, "well", False, held[name]) for name in held]
        begins = set()
        for signs in itertools.product(SIGNS[:26], repeat=2):
            asker = "".join(signs)
            first, second = by_words.row(servers, asker, 10 ** 9)[:2]
            wanted = second if held[second] < held[first] else first
            self.assertEqual(chosen(servers, asker, "x", 10 ** 9, 1000), wanted)
            begins.add((first, second))
        # Each two of the four were met as the first ones.
        self.assertEqual(len(begins), 12)

    def test_those_that_can_not_be_chosen_are_passed_over_in_the_row(self):
        # c and tmp77 lie first in the row, but one is ill, the other of another zone.
        servers = [server("web1", "x", 20, held=1), server("db", "x", 20), server("c", "x", 20, "ill"),
                   server("tmp77", "y", 20)]
        asker = asker_with_row(servers, 10 ** 9, ["c", "tmp77", "web1", "db"])
        self.assertEqual(chosen(servers, asker, "x", 10 ** 9, 1000), "db")
        self.assertEqual(chosen(servers, asker, "none", 10 ** 9, 1000), "tmp77")
        asker = asker_with_row(servers, 10 ** 9, ["web1", "c", "tmp77", "db"])
        self.assertEqual(chosen(servers, asker, "x", 10 ** 9, 1000), "db")

    def test_the_row_by_the_marks_of_all_servers(self):
        # A server that can not be chosen changes nothing of the row of the others, wherever it stands.
        servers = [server("a"), server("b", weight=3), server("c", weight=2)]
        for away in (server("d", "x", 20, "ill"), server("d", "x", 20, "well", True)):
            for signs in itertools.product("abcdefgh", repeat=2):
                asker = "".join(signs)
                for size in (7, 100, 10 ** 9):
                    wanted = by_words.row(servers, asker, size)[0]
                    for place in range(4):
                        told = servers[:place] + [away] + servers[place:]
                        self.assertEqual(chosen(told, asker, "x", size, 0), wanted)

    def test_by_a_known_spot(self):
        # On a ring of 100 the spots of a are 15 and 12, those of z 90 and so on (test_rings has them).
        servers = [server("a", weight=2), server("z")]
        self.assertEqual(chosen(servers, "a", "x", 100, 0), "a")
        self.assertEqual(chosen(servers, "z", "x", 100, 0), "z")

    def test_a_ring_of_one_spot(self):
        # All stand at one spot, so the row goes by name.
        servers = [server("b"), server("c"), server("a")]
        for asker in ("u", "a", "zz9"):
            self.assertEqual(chosen(servers, asker, "x", 1, 0), "a")
        servers = [server("b"), server("c"), server("a", held=1)]
        self.assertEqual(chosen(servers, "u", "x", 1, 1000), "b")

    def test_by_the_words_of_the_document(self):
        chance = random.Random(19)
        for turn in range(400):
            servers = some_servers(chance)
            for extra in EXTRAS:
                asker = chance.choice("abcxyz") + chance.choice(SIGNS)
                zone = chance.choice(("x", "y", "z", "none"))
                size = chance.choice(SIZES)
                told = chosen(servers, asker, zone, size, extra)
                self.assertEqual(told, by_words.chosen(servers, asker, zone, size, extra))

    def test_what_is_handed_in_stays(self):
        for servers in ([], [server("a"), server("b", drains=True), server("c", held=2)]):
            kept = copy.deepcopy(servers)
            told = chosen(servers, "u", "x", 100, 0)
            self.assertEqual(servers, kept)
            self.assertEqual(chosen(servers, "u", "x", 100, 0), told)


if __name__ == "__main__":
    unittest.main()

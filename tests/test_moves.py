import itertools
import random
import unittest

from by_words import WordsHall, all_told, answer
from usher.errors import Unknown
from usher.halls import Hall


def hall_with(servers, asks, extra=1000, rise=2, fall=2):
    # With so much extra an asker comes to the one server of its zone.
    hall = Hall(100, rise, fall, extra)
    for name, zone, weight in servers:
        hall.put(name, zone, weight)
    for asker, zone in asks:
        hall.ask(asker, zone)
    return hall


def written(hall, deed):
    # What the deed told, and the entries that it wrote.
    ahead = hall.log()
    told = answer(hall, deed)
    log = hall.log()
    assert log[:len(ahead)] == ahead
    return told, log[len(ahead):]


def held(hall):
    return {server[0]: server[5] for server in hall.servers()}


THREE = [("a", "x", 1), ("b", "y", 1), ("c", "z", 1)]
MIXED = [("u1", "x"), ("u2", "y"), ("u3", "x"), ("u4", "z"), ("u5", "x"), ("u6", "y"), ("u7", "x")]
# Ways for the server a, of the zone x, to go, each with what is written ahead of the moves.
WAYS = (
    ([("out", "a")], ("out", "a")),
    ([("look", "a", False), ("look", "a", False)], ("ill", "a")),
    ([("zone_falls", "x")], ("ill", "a")),
)


class MoveTest(unittest.TestCase):
    def go(self, hall, way):
        # All but the last deed of a way write nothing.
        for deed in way[:-1]:
            self.assertEqual(written(hall, deed), (None, []))
        told, entries = written(hall, way[-1])
        self.assertIsNone(told)
        return entries


class GoneTest(MoveTest):
    def test_no_asks(self):
        for way, first in WAYS:
            hall = hall_with(THREE, [("u", "y"), ("v", "z")])
            self.assertEqual(self.go(hall, way), [first])
            self.assertEqual(hall.asks(), [("u", "b"), ("v", "c")])

    def test_no_asks_and_no_other_server(self):
        for way, first in WAYS:
            hall = hall_with(THREE[:1], [])
            self.assertEqual(self.go(hall, way), [first])

    def test_one_ask(self):
        for way, first in WAYS:
            hall = hall_with(THREE, [("u", "x"), ("v", "y")])
            self.assertEqual(self.go(hall, way), [first, ("moved", "u", "a", "c")])
            self.assertEqual(hall.asks(), [("u", "c"), ("v", "b")])

    def test_many_asks_in_the_order_of_opening(self):
        for way, first in WAYS:
            hall = hall_with(THREE, MIXED)
            # b holds 2, c 1: the first goes to c, then by turns, of like ones to b, which was put in first.
            self.assertEqual(self.go(hall, way), [first, ("moved", "u1", "a", "c"), ("moved", "u3", "a", "b"),
                                                  ("moved", "u5", "a", "c"), ("moved", "u7", "a", "b")])
            self.assertEqual([asker for asker, server in hall.asks()], [asker for asker, zone in MIXED])
            self.assertEqual(hall.where("u2"), "b")
            self.assertEqual(hall.where("u4"), "c")

    def test_the_order_of_opening_stays_behind_moves(self):
        hall = hall_with(THREE, MIXED)
        hall.out("a")
        hall.put("a", "x", 20)
        # u3 and u7 came to b by a move, and stand there as they were opened.
        entries = written(hall, ("out", "b"))[1]
        self.assertEqual([entry[1] for entry in entries[1:]], ["u2", "u3", "u6", "u7"])

    def test_weights_count(self):
        for way, first in WAYS:
            hall = hall_with([("a", "x", 1), ("b", "y", 1), ("c", "z", 3)], [("u" + str(n), "x") for n in range(4)])
            # Loads with one more: c 1 of 3, 2 of 3; then b and c alike at 1, b first; then c.
            self.assertEqual([entry[3] for entry in self.go(hall, way)[1:]], ["c", "c", "b", "c"])

    def test_caps_count(self):
        for way, first in WAYS:
            # Without extra: five are counted, b of 1 has a cap of 1, c of 4 one of 4.
            hall = hall_with([("a", "x", 20), ("b", "y", 1), ("c", "z", 4)], [], 0)
            for number in range(5):
                hall.drain("b")
                hall.drain("c")
                hall.ask("u" + str(number), "x")
            hall.fill("b")
            hall.fill("c")
            self.go(hall, way)
            self.assertEqual((held(hall)["b"], held(hall)["c"]), (1, 4))

    def test_a_full_server_gets_none(self):
        # Without extra: b holds three of four, where its cap is 2.
        hall = hall_with([("b", "y", 1)], [("v1", "y"), ("v2", "y"), ("v3", "y")], 0)
        hall.put("a", "x", 1)
        hall.put("c", "z", 1)
        hall.drain("c")
        self.assertEqual(hall.ask("u", "x"), "a")
        hall.fill("c")
        self.assertEqual(written(hall, ("out", "a"))[1], [("out", "a"), ("moved", "u", "a", "c")])

    def test_asks_at_draining_servers_stay_and_are_not_counted(self):
        hall = hall_with(THREE, MIXED)
        hall.drain("c")
        self.assertEqual([entry[3] for entry in written(hall, ("out", "a"))[1][1:]], ["b"] * 4)
        self.assertEqual(hall.where("u4"), "c")

    def test_not_to_ill_or_draining_ones(self):
        for way, first in WAYS:
            hall = hall_with(THREE, [("u", "x"), ("v", "x")])
            hall.put("d", "w", 20)
            hall.put("e", "v", 20)
            hall.drain("d")
            hall.zone_falls("v")
            hall.drain("b")
            entries = self.go(hall, way)
            self.assertEqual(entries, [first, ("moved", "u", "a", "c"), ("moved", "v", "a", "c")])

    def test_a_draining_server_goes(self):
        for way, first in WAYS:
            hall = hall_with(THREE, [("u", "x"), ("v", "y")])
            hall.drain("a")
            self.assertEqual(self.go(hall, way), [first, ("moved", "u", "a", "c")])

    def test_lost_where_no_server_is_live(self):
        for way, first in WAYS:
            hall = hall_with(THREE, MIXED)
            hall.drain("b")
            hall.zone_falls("z")
            hall.out("c")
            at_a = [asker for asker, server in hall.asks() if server == "a"]
            at_b = [ask for ask in hall.asks() if ask[1] == "b"]
            self.assertGreater(len(at_a), 3)
            self.assertEqual(self.go(hall, way), [first] + [("lost", asker, "a") for asker in at_a])
            # Those that stand at the draining one stay.
            self.assertEqual(hall.asks(), at_b)
            self.assertEqual([hall.where(asker) for asker in at_a], [None] * len(at_a))

    def test_the_last_server_goes(self):
        for way, first in WAYS:
            hall = hall_with(THREE[:1], [("u", "x"), ("v", "x")])
            self.assertEqual(self.go(hall, way), [first, ("lost", "u", "a"), ("lost", "v", "a")])
            self.assertEqual(hall.asks(), [])
            # They can ask anew where a server is live again.
            hall.put("b", "x", 1)
            self.assertEqual(hall.ask("u", "x"), "b")

    def test_out_is_gone(self):
        hall = hall_with(THREE, MIXED)
        hall.out("a")
        self.assertEqual([server[0] for server in hall.servers()], ["b", "c"])
        self.assertEqual(answer(hall, ("out", "a")), Unknown)
        self.assertEqual(answer(hall, ("out", "x")), Unknown)
        self.assertEqual(held(hall), {"b": 4, "c": 3})

    def test_two_hundred_asks(self):
        hall = hall_with([("a", "x", 1)], [("u" + str(n), "x") for n in range(200)], 0)
        for place in range(29):
            hall.put("s" + str(place), "y", 1 + place % 20)
        words = WordsHall(100, 2, 2, 0)
        words.put("a", "x", 1)
        for number in range(200):
            words.ask("u" + str(number), "x")
        for place in range(29):
            words.put("s" + str(place), "y", 1 + place % 20)
        hall.out("a")
        words.out("a")
        self.assertEqual(all_told(hall), all_told(words))
        self.assertEqual(len(hall.asks()), 200)


class LookTest(MoveTest):
    def test_looks_that_change_no_word_write_nothing(self):
        hall = hall_with(THREE, MIXED, 1000, 3, 3)
        for good, health in ((True, ("well", 0)), (False, ("well", 1)), (False, ("well", 2)), (True, ("well", 0)),
                             (False, ("well", 1)), (False, ("well", 2))):
            self.assertEqual(written(hall, ("look", "a", good)), (None, []))
            self.assertEqual(hall.health("a"), health)
        told, entries = written(hall, ("look", "a", False))
        self.assertEqual(entries[0], ("ill", "a"))
        self.assertEqual(len(entries), 5)
        for good, health in ((False, ("ill", 0)), (True, ("ill", 1)), (True, ("ill", 2)), (False, ("ill", 0)),
                             (True, ("ill", 1)), (True, ("ill", 2))):
            self.assertEqual(written(hall, ("look", "a", good)), (None, []))
            self.assertEqual(hall.health("a"), health)
        self.assertEqual(written(hall, ("look", "a", True)), (None, [("well", "a")]))
        self.assertEqual(hall.health("a"), ("well", 0))
        # Nobody is moved back.
        self.assertEqual(held(hall)["a"], 0)

    def test_rise_and_fall_are_not_mixed_up(self):
        hall = hall_with(THREE, [], 1000, 1, 3)
        for good, entries in ((False, []), (False, []), (False, [("ill", "b")]), (True, [("well", "b")])):
            self.assertEqual(written(hall, ("look", "b", good)), (None, entries))
        hall = hall_with(THREE, [], 1000, 3, 1)
        for good, entries in ((False, [("ill", "b")]), (True, []), (True, []), (True, [("well", "b")])):
            self.assertEqual(written(hall, ("look", "b", good)), (None, entries))

    def test_the_word_is_told(self):
        hall = hall_with(THREE, [], 1000, 1, 1)
        hall.look("b", False)
        self.assertEqual([server[3] for server in hall.servers()], ["well", "ill", "well"])
        self.assertEqual(hall.health("b"), ("ill", 0))
        self.assertEqual(hall.health("a"), ("well", 0))
        hall.look("b", True)
        self.assertEqual([server[3] for server in hall.servers()], ["well"] * 3)

    def test_each_server_has_its_own_row(self):
        hall = hall_with(THREE, [], 1000, 9, 9)
        for name, times in (("a", 1), ("b", 2), ("c", 3)):
            for time in range(times):
                hall.look(name, False)
        self.assertEqual([hall.health(name)[1] for name in ("a", "b", "c")], [1, 2, 3])
        hall.look("b", True)
        self.assertEqual([hall.health(name)[1] for name in ("a", "b", "c")], [1, 0, 3])

    def test_a_draining_one_gets_well_and_drains_on(self):
        hall = hall_with(THREE, [], 1000, 1, 1)
        hall.drain("a")
        hall.look("a", False)
        hall.look("a", True)
        self.assertEqual(hall.servers()[0], ("a", "x", 1, "well", True, 0))

    def test_unknown(self):
        hall = hall_with(THREE, MIXED)
        hall.out("c")
        ahead = all_told(hall)
        for name in ("c", "x", "u1", "none"):
            for good in (True, False):
                self.assertEqual(answer(hall, ("look", name, good)), Unknown)
        self.assertEqual(all_told(hall), ahead)

    def test_a_hundred_looks(self):
        hall = hall_with(THREE, [], 1000, 100, 100)
        for time in range(99):
            hall.look("a", False)
        self.assertEqual(hall.health("a"), ("well", 99))
        self.assertEqual(written(hall, ("look", "a", False))[1], [("ill", "a")])
        for time in range(99):
            hall.look("a", True)
        self.assertEqual(hall.health("a"), ("ill", 99))
        self.assertEqual(written(hall, ("look", "a", True))[1], [("well", "a")])


class ZoneTest(MoveTest):
    def test_a_zone_of_no_server(self):
        hall = hall_with(THREE, MIXED)
        ahead = all_told(hall)
        for zone in ("none", "a", "u1"):
            self.assertEqual(answer(hall, ("zone_falls", zone)), Unknown)
        self.assertEqual(all_told(hall), ahead)
        hall.out("a")
        self.assertEqual(answer(hall, ("zone_falls", "x")), Unknown)

    def test_all_fall_ahead_of_the_moves_and_move_together(self):
        hall = Hall(100, 1, 1, 1000)
        for name, zone in (("a", "x"), ("b", "y"), ("c", "x"), ("d", "z")):
            hall.put(name, zone, 1)
        # Led to c, a, c, a by draining the other of the zone.
        for asker, away in (("u1", "a"), ("u2", "c"), ("u3", "a"), ("u4", "c")):
            hall.drain(away)
            hall.ask(asker, "x")
            hall.fill(away)
        hall.ask("v", "y")
        self.assertEqual(hall.asks(), [("u1", "c"), ("u2", "a"), ("u3", "c"), ("u4", "a"), ("v", "b")])
        self.assertEqual(written(hall, ("zone_falls", "x")), (None, [
            ("ill", "a"), ("ill", "c"), ("moved", "u1", "c", "d"), ("moved", "u2", "a", "b"),
            ("moved", "u3", "c", "d"), ("moved", "u4", "a", "b"),
        ]))

    def test_well_draining_and_ill_ones(self):
        hall = Hall(100, 3, 3, 1000)
        for name in ("a", "b", "c", "d"):
            hall.put(name, "x", 1)
        hall.put("e", "y", 1)
        hall.drain("b")
        for time in range(3):
            hall.look("c", False)
        hall.look("c", True)
        hall.look("d", False)
        self.assertEqual(written(hall, ("zone_falls", "x")), (None, [("ill", "a"), ("ill", "b"), ("ill", "d")]))
        self.assertEqual([hall.health(name) for name in "abcde"],
                         [("ill", 0), ("ill", 0), ("ill", 1), ("ill", 0), ("well", 0)])
        self.assertEqual([server[4] for server in hall.servers()], [False, True, False, False, False])

    def test_falls_again(self):
        hall = hall_with(THREE, MIXED)
        hall.zone_falls("x")
        hall.look("a", True)
        ahead = all_told(hall)
        # All are ill already: not refused, and nothing is written.
        self.assertEqual(written(hall, ("zone_falls", "x")), (None, []))
        self.assertEqual(all_told(hall), ahead)
        self.assertEqual(hall.health("a"), ("ill", 1))

    def test_asks_at_a_draining_one_move(self):
        hall = hall_with(THREE, MIXED)
        hall.drain("a")
        hall.zone_falls("x")
        self.assertEqual(held(hall)["a"], 0)
        self.assertEqual(len(hall.asks()), 7)

    def test_all_zones_fall(self):
        hall = hall_with(THREE, MIXED)
        hall.zone_falls("x")
        hall.zone_falls("y")
        self.assertEqual(set(server for asker, server in hall.asks()), {"c"})
        entries = written(hall, ("zone_falls", "z"))[1]
        self.assertEqual(entries, [("ill", "c")] + [("lost", asker, "c") for asker, zone in MIXED])

    def test_the_only_zone_falls(self):
        hall = Hall(100, 1, 1, 0)
        for name in ("a", "b", "c"):
            hall.put(name, "x", 1)
        for number in range(6):
            hall.ask("u" + str(number), "x")
        stood = hall.asks()
        self.assertEqual(written(hall, ("zone_falls", "x"))[1],
                         [("ill", "a"), ("ill", "b"), ("ill", "c")] + [("lost",) + ask for ask in stood])


class EveningTest(MoveTest):
    def test_no_servers_or_none_live(self):
        hall = Hall(100, 1, 1, 0)
        self.assertEqual(written(hall, ("evening",)), (0, []))
        hall = hall_with(THREE, MIXED, 0)
        for name in ("a", "b", "c"):
            hall.drain(name)
        self.assertEqual(written(hall, ("evening",)), (0, []))
        self.assertEqual(len(hall.asks()), 7)

    def test_none_above_its_cap(self):
        hall = hall_with(THREE, MIXED, 0)
        self.assertEqual(written(hall, ("evening",)), (0, []))
        hall = hall_with(THREE, MIXED, 1000)
        self.assertEqual(written(hall, ("evening",)), (0, []))
        hall = hall_with(THREE, [], 0)
        self.assertEqual(written(hall, ("evening",)), (0, []))

    def test_those_opened_last_move(self):
        hall = hall_with(THREE[:1], [("u" + str(number), "x") for number in range(6)], 0)
        hall.put("b", "y", 1)
        hall.put("c", "z", 1)
        # The cap of a third of six is 2.
        self.assertEqual(written(hall, ("evening",)), (4, [
            ("moved", "u2", "a", "b"), ("moved", "u3", "a", "c"), ("moved", "u4", "a", "b"), ("moved", "u5", "a", "c"),
        ]))
        self.assertEqual(held(hall), {"a": 2, "b": 2, "c": 2})
        self.assertEqual(written(hall, ("evening",)), (0, []))

    def test_one_above_its_cap(self):
        hall = hall_with(THREE[:2], [("u", "x"), ("v", "x"), ("w", "x"), ("q", "y")], 0)
        self.assertEqual(held(hall), {"a": 2, "b": 2})
        hall.put("c", "z", 4)
        # Of four by the weights 1, 1, 4 the caps are 1, 1 and 3.
        told, entries = written(hall, ("evening",))
        self.assertEqual(told, 2)
        self.assertEqual([entry[3] for entry in entries], ["c", "c"])
        self.assertEqual(held(hall), {"a": 1, "b": 1, "c": 2})

    def test_movers_of_several_servers_in_the_order_of_opening(self):
        hall = Hall(100, 1, 1, 0)
        hall.put("a", "x", 1)
        hall.put("b", "y", 1)
        for number in range(10):
            hall.ask("u" + str(number), "x")
        self.assertEqual(held(hall), {"a": 5, "b": 5})
        ahead = hall.asks()
        hall.put("c", "z", 3)
        # Of ten by the weights 1, 1, 3 the caps are 2, 2 and 6.
        told, entries = written(hall, ("evening",))
        self.assertEqual(told, 6)
        last = [ask for ask in ahead if ask[1] == "a"][2:] + [ask for ask in ahead if ask[1] == "b"][2:]
        self.assertEqual(entries, [("moved", ask[0], ask[1], "c") for ask in ahead if ask in last])
        self.assertEqual([asker for asker, server in hall.asks()], [asker for asker, server in ahead])

    def test_all_but_one_above_their_caps(self):
        hall = hall_with([], [], 0)
        for name in ("a", "b", "c"):
            hall.put(name, "x", 1)
        for number in range(12):
            hall.ask("u" + str(number), "x")
        hall.put("d", "x", 20)
        # Of twelve by 1 of 23 the cap is 1: three of each go to d.
        self.assertEqual(hall.evening(), 9)
        self.assertEqual(held(hall), {"a": 1, "b": 1, "c": 1, "d": 9})

    def test_behind_weights_told_anew(self):
        hall = Hall(100, 1, 1, 0)
        hall.put("a", "x", 1)
        hall.put("b", "y", 1)
        for number in range(8):
            hall.ask("u" + str(number), "x")
        hall.weigh("b", 3)
        self.assertEqual(hall.evening(), 2)
        self.assertEqual(held(hall), {"a": 2, "b": 6})
        hall.weigh("a", 3)
        self.assertEqual(hall.evening(), 2)
        self.assertEqual(held(hall), {"a": 4, "b": 4})

    def test_draining_and_ill_ones_give_and_get_none(self):
        hall = hall_with(THREE[:1], [("u" + str(number), "x") for number in range(6)], 0)
        hall.put("b", "y", 1)
        hall.put("c", "z", 1)
        hall.put("d", "w", 1)
        hall.drain("b")
        hall.zone_falls("z")
        self.assertEqual(hall.evening(), 3)
        self.assertEqual(held(hall), {"a": 3, "b": 0, "c": 0, "d": 3})
        hall.fill("b")
        hall.drain("a")
        # What a holds is not counted now: three at d and b, caps of 2.
        self.assertEqual(hall.evening(), 1)
        self.assertEqual(held(hall), {"a": 3, "b": 1, "c": 0, "d": 2})

    def test_extra_keeps_asks_where_they_are(self):
        for extra, moved in ((0, 4), (49, 3), (50, 3), (51, 2), (99, 2), (100, 2), (101, 1), (200, 0), (1000, 0)):
            hall = hall_with(THREE[:1], [("u" + str(number), "x") for number in range(6)], extra)
            hall.put("b", "y", 1)
            hall.put("c", "z", 1)
            with self.subTest(extra=extra):
                self.assertEqual(hall.evening(), moved)
                self.assertEqual(held(hall)["a"], 6 - moved)

    def test_two_hundred_asks(self):
        hall = hall_with([("a", "x", 1)], [("u" + str(number), "x") for number in range(200)], 0)
        for place in range(29):
            hall.put("s" + str(place), "y", 1)
        # Of 200 by a thirtieth the cap is 7.
        self.assertEqual(hall.evening(), 193)
        self.assertEqual(held(hall)["a"], 7)
        self.assertEqual(hall.evening(), 0)

    def test_evenings_do_not_touch_where_askers_ended(self):
        hall = hall_with(THREE[:1], [("u", "x"), ("v", "x")], 0)
        hall.put("b", "y", 1)
        self.assertEqual(written(hall, ("evening",)), (1, [("moved", "v", "a", "b")]))
        self.assertEqual(hall.end("v"), "b")
        self.assertEqual(hall.end("u"), "a")
        self.assertEqual(hall.ask("v", "x"), "b")


class WordsTest(unittest.TestCase):
    """The program beside the hall of by_words, deed by deed."""

    def assert_alike(self, hall, words, deed):
        self.assertEqual(answer(hall, deed), answer(words, deed), deed)
        self.assertEqual(all_told(hall), all_told(words), deed)

    def test_every_short_row_of_deeds(self):
        deeds = (("put", "b", "x", 3), ("out", "a"), ("drain", "a"), ("fill", "a"), ("look", "a", False),
                 ("look", "a", True), ("zone_falls", "x"), ("ask", "u", "x"), ("end", "u"), ("evening",),
                 ("weigh", "b", 1))
        for row in itertools.product(deeds, repeat=4):
            hall, words = Hall(7, 1, 1, 0), WordsHall(7, 1, 1, 0)
            for deed in (("put", "a", "x", 1), ("ask", "v", "x"), ("ask", "u", "x"), ("end", "u")) + row:
                self.assertEqual(answer(hall, deed), answer(words, deed), row)
            self.assertEqual(all_told(hall), all_told(words), row)

    def test_long_rows_of_deeds(self):
        for seed in range(60):
            chance = random.Random(seed)
            made = (chance.choice((1, 7, 100, 10 ** 9)), chance.choice((1, 2, 3)), chance.choice((1, 2, 3)),
                    chance.choice((0, 0, 25, 100, 1000)))
            hall, words = Hall(*made), WordsHall(*made)
            names = ["s" + str(number) for number in range(chance.choice((2, 4, 8)))]
            zones = ["x", "y", "z"][:chance.choice((1, 2, 3))]
            askers = ["u" + str(number) for number in range(chance.choice((3, 12, 40)))]
            for turn in range(200):
                name, zone = chance.choice(names), chance.choice(zones + ["none"])
                asker, weight = chance.choice(askers), chance.choice((1, 1, 2, 3, 20))
                deed = chance.choice((
                    ("put", name, zone, weight), ("put", name, zone, weight), ("weigh", name, weight),
                    ("drain", name), ("fill", name), ("out", name), ("look", name, True), ("look", name, False),
                    ("look", name, True), ("evening",), ("ask", asker, zone), ("ask", asker, zone),
                    ("ask", asker, zone), ("ask", asker, zone), ("end", asker), ("end", asker),
                    ("zone_falls", zone) if turn % 4 == 0 else ("look", name, True),
                ))
                self.assert_alike(hall, words, deed)


if __name__ == "__main__":
    unittest.main()

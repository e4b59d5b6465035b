import unittest

import by_words
from by_words import all_told, answer, check_refusal
from usher.errors import NoServer, Twice, Unknown
from usher.halls import Hall


def wide(rise=2, fall=2):
    # With so much extra each server is free, so an asker comes to the one server of its zone.
    return Hall(100, rise, fall, 1000)


def three():
    hall = wide()
    hall.put("a", "x", 1)
    hall.put("b", "y", 1)
    hall.put("c", "z", 1)
    return hall


def ended_at_b():
    hall = three()
    hall.ask("u", "y")
    hall.end("u")
    return hall


class HallTest(unittest.TestCase):
    def assert_refused(self, refusal, hall, *deed):
        ahead = all_told(hall)
        with self.subTest(deed=deed):
            check_refusal(self, refusal, hall, deed)
            self.assertEqual(all_told(hall), ahead)

    def assert_written(self, hall, deed, entries, told=None):
        # Told and written by one deed; what stood in the log stays at its begin.
        ahead = hall.log()
        self.assertEqual(answer(hall, deed), told)
        self.assertEqual(hall.log(), ahead + entries)


class NewHallTest(HallTest):
    def test_nothing_stands(self):
        for size, rise, fall, extra in ((1, 1, 1, 0), (100, 2, 3, 25), (10 ** 9, 100, 100, 1000)):
            hall = Hall(size, rise, fall, extra)
            self.assertEqual(hall.servers(), [])
            self.assertEqual(hall.asks(), [])
            self.assertEqual(hall.log(), [])
            self.assertIsNone(hall.where("u"))
            self.assertEqual(hall.evening(), 0)
            self.assertEqual(hall.log(), [])

    def test_refusals(self):
        hall = Hall(100, 1, 1, 0)
        for deed in (("weigh", "a", 1), ("drain", "a"), ("fill", "a"), ("out", "a"), ("look", "a", True),
                     ("look", "a", False), ("zone_falls", "x"), ("end", "u"), ("health", "a")):
            self.assert_refused(Unknown, hall, *deed)
        self.assert_refused(NoServer, hall, "ask", "u", "x")

    def test_two_halls_are_apart(self):
        first, second = three(), wide()
        first.ask("u", "x")
        self.assertEqual(all_told(second), ([], [], [], []))
        second.put("a", "q", 7)
        self.assertEqual(first.servers()[0], ("a", "x", 1, "well", False, 1))


class PutTest(HallTest):
    def test_put(self):
        hall = wide()
        self.assert_written(hall, ("put", "a", "x", 3), [("put", "a", "x", 3)])
        self.assertEqual(hall.servers(), [("a", "x", 3, "well", False, 0)])
        self.assertEqual(hall.health("a"), ("well", 0))
        self.assert_written(hall, ("put", "b", "x", 20), [("put", "b", "x", 20)])
        self.assertEqual(hall.servers()[1], ("b", "x", 20, "well", False, 0))

    def test_put_twice(self):
        hall = three()
        self.assert_refused(Twice, hall, "put", "a", "x", 1)
        self.assert_refused(Twice, hall, "put", "b", "other", 9)
        hall.drain("b")
        hall.zone_falls("z")
        self.assert_refused(Twice, hall, "put", "b", "y", 1)
        self.assert_refused(Twice, hall, "put", "c", "z", 1)

    def test_the_order_of_putting_in(self):
        hall = wide()
        names = ["z", "b", "a9", "a", "m"]
        for name in names:
            hall.put(name, "x", 1)
        self.assertEqual([server[0] for server in hall.servers()], names)
        # Neither of these changes the order.
        hall.weigh("b", 7)
        hall.drain("z")
        hall.fill("z")
        hall.look("a", False)
        hall.look("a", False)
        self.assertEqual([server[0] for server in hall.servers()], names)

    def test_put_in_anew_stands_last(self):
        hall = three()
        hall.out("a")
        self.assertEqual([server[0] for server in hall.servers()], ["b", "c"])
        self.assert_written(hall, ("put", "a", "w", 9), [("put", "a", "w", 9)])
        self.assertEqual(hall.servers(), [("b", "y", 1, "well", False, 0), ("c", "z", 1, "well", False, 0),
                                          ("a", "w", 9, "well", False, 0)])

    def test_put_in_anew_is_as_new(self):
        hall = wide(rise=3, fall=3)
        for spoil in (("drain", "a"), ("look", "a", False), ("zone_falls", "x")):
            hall.put("a", "x", 1)
            by_words.do(hall, spoil)
            hall.out("a")
            self.assert_refused(Unknown, hall, "health", "a")
            hall.put("a", "x", 1)
            self.assertEqual(hall.servers(), [("a", "x", 1, "well", False, 0)])
            self.assertEqual(hall.health("a"), ("well", 0))
            hall.out("a")

    def test_no_ask_moves(self):
        hall = Hall(100, 1, 1, 0)
        hall.put("a", "x", 1)
        for asker in ("u", "v", "w"):
            hall.ask(asker, "x")
        for deed in (("put", "b", "x", 20), ("weigh", "a", 20), ("weigh", "b", 1), ("drain", "a"), ("fill", "a")):
            answer(hall, deed)
            self.assertEqual(hall.asks(), [("u", "a"), ("v", "a"), ("w", "a")])

    def test_thirty_servers(self):
        hall = Hall(10 ** 9, 1, 1, 0)
        for place in range(30):
            hall.put("s" + str(place), "z" + str(place % 12), 1 + place % 20)
        self.assertEqual([server[:3] for server in hall.servers()],
                         [("s" + str(place), "z" + str(place % 12), 1 + place % 20) for place in range(30)])


class WeighTest(HallTest):
    def test_weigh(self):
        hall = three()
        self.assert_written(hall, ("weigh", "b", 20), [("weigh", "b", 20)])
        self.assertEqual([server[2] for server in hall.servers()], [1, 20, 1])

    def test_the_same_weight_is_written_too(self):
        hall = three()
        self.assert_written(hall, ("weigh", "b", 1), [("weigh", "b", 1)])
        self.assert_written(hall, ("weigh", "b", 1), [("weigh", "b", 1)])
        self.assertEqual([server[2] for server in hall.servers()], [1, 1, 1])

    def test_all_else_stays(self):
        hall = three()
        hall.ask("u", "x")
        hall.drain("a")
        hall.look("a", False)
        hall.zone_falls("y")
        hall.weigh("a", 5)
        hall.weigh("b", 6)
        self.assertEqual(hall.servers()[0], ("a", "x", 5, "well", True, 1))
        self.assertEqual(hall.servers()[1], ("b", "y", 6, "ill", False, 0))
        self.assertEqual(hall.health("a"), ("well", 1))

    def test_unknown(self):
        hall = three()
        self.assert_refused(Unknown, hall, "weigh", "d", 1)
        self.assert_refused(Unknown, hall, "weigh", "x", 1)
        hall.out("b")
        self.assert_refused(Unknown, hall, "weigh", "b", 1)

    def test_the_weight_counts_in_caps_and_marks(self):
        hall, words = Hall(100, 1, 1, 0), by_words.WordsHall(100, 1, 1, 0)
        for deed in [("put", "a", "x", 1), ("put", "b", "x", 1), ("weigh", "a", 20)] + \
                [("ask", "u" + str(place), "x") for place in range(21)]:
            self.assertEqual(answer(hall, deed), answer(words, deed))
        self.assertEqual([server[5] for server in hall.servers()], [20, 1])


class DrainTest(HallTest):
    def test_drain_and_fill(self):
        hall = three()
        self.assert_written(hall, ("drain", "b"), [("drain", "b")])
        self.assertEqual(hall.servers()[1], ("b", "y", 1, "well", True, 0))
        self.assert_written(hall, ("fill", "b"), [("fill", "b")])
        self.assertEqual(hall.servers()[1], ("b", "y", 1, "well", False, 0))

    def test_so_already(self):
        hall = three()
        self.assert_written(hall, ("fill", "b"), [])
        hall.drain("b")
        ahead = all_told(hall)
        self.assert_written(hall, ("drain", "b"), [])
        self.assertEqual(all_told(hall), ahead)
        hall.fill("b")
        ahead = all_told(hall)
        self.assert_written(hall, ("fill", "b"), [])
        self.assertEqual(all_told(hall), ahead)

    def test_an_ill_one_drains(self):
        hall = three()
        hall.zone_falls("y")
        self.assert_written(hall, ("drain", "b"), [("drain", "b")])
        self.assertEqual(hall.servers()[1], ("b", "y", 1, "ill", True, 0))
        self.assert_written(hall, ("fill", "b"), [("fill", "b")])
        self.assertEqual(hall.servers()[1], ("b", "y", 1, "ill", False, 0))

    def test_asks_stay_and_none_comes(self):
        hall = three()
        hall.ask("u", "y")
        hall.drain("b")
        self.assertEqual(hall.where("u"), "b")
        self.assertNotEqual(hall.ask("v", "y"), "b")
        self.assertEqual(hall.servers()[1], ("b", "y", 1, "well", True, 1))
        hall.fill("b")
        self.assertEqual(hall.ask("w", "y"), "b")

    def test_unknown(self):
        hall = three()
        for word in ("drain", "fill"):
            self.assert_refused(Unknown, hall, word, "d")
            self.assert_refused(Unknown, hall, word, "y")
        hall.out("a")
        for word in ("drain", "fill"):
            self.assert_refused(Unknown, hall, word, "a")


class AskTest(HallTest):
    def test_ask_and_end(self):
        hall = three()
        self.assert_written(hall, ("ask", "u", "y"), [("open", "u", "b")], "b")
        self.assertEqual(hall.where("u"), "b")
        self.assertEqual(hall.asks(), [("u", "b")])
        self.assertEqual([server[5] for server in hall.servers()], [0, 1, 0])
        self.assert_written(hall, ("end", "u"), [("end", "u", "b")], "b")
        self.assertIsNone(hall.where("u"))
        self.assertEqual(hall.asks(), [])
        self.assertEqual([server[5] for server in hall.servers()], [0, 0, 0])

    def test_asked_twice(self):
        hall = three()
        hall.ask("u", "y")
        self.assert_refused(Twice, hall, "ask", "u", "y")
        self.assert_refused(Twice, hall, "ask", "u", "x")
        hall.end("u")
        self.assertEqual(hall.ask("u", "y"), "b")
        self.assert_refused(Twice, hall, "ask", "u", "y")

    def test_no_server_is_live(self):
        hall = wide()
        self.assert_refused(NoServer, hall, "ask", "u", "x")
        hall.put("a", "x", 1)
        hall.put("b", "y", 1)
        hall.drain("a")
        hall.zone_falls("y")
        self.assert_refused(NoServer, hall, "ask", "u", "x")
        self.assert_refused(NoServer, hall, "ask", "u", "y")
        hall.fill("a")
        self.assertEqual(hall.ask("u", "y"), "a")

    def test_twice_ahead_of_no_server(self):
        hall = three()
        hall.ask("u", "x")
        for name in ("a", "b", "c"):
            hall.drain(name)
        self.assertEqual(hall.where("u"), "a")
        self.assert_refused(Twice, hall, "ask", "u", "x")
        self.assert_refused(NoServer, hall, "ask", "v", "x")

    def test_ended_without_an_ask(self):
        hall = three()
        self.assert_refused(Unknown, hall, "end", "u")
        hall.ask("u", "x")
        # A server's name is no asker's.
        self.assert_refused(Unknown, hall, "end", "a")
        hall.end("u")
        self.assert_refused(Unknown, hall, "end", "u")

    def test_the_order_of_opening(self):
        hall = three()
        for asker, zone in (("w", "z"), ("u", "y"), ("a", "x"), ("v", "y")):
            hall.ask(asker, zone)
        self.assertEqual(hall.asks(), [("w", "c"), ("u", "b"), ("a", "a"), ("v", "b")])
        hall.end("u")
        hall.ask("u", "x")
        self.assertEqual(hall.asks(), [("w", "c"), ("a", "a"), ("v", "b"), ("u", "b")])
        # A move changes nothing of it.
        hall.out("c")
        self.assertEqual([asker for asker, server in hall.asks()], ["w", "a", "v", "u"])

    def test_names_that_are_alike(self):
        # Servers, zones and askers are apart from one another.
        hall = wide()
        hall.put("a", "b", 1)
        hall.put("b", "a", 1)
        self.assertEqual(hall.ask("a", "a"), "b")
        self.assertEqual(hall.ask("b", "b"), "a")
        self.assertEqual(hall.asks(), [("a", "b"), ("b", "a")])
        self.assertEqual((hall.where("a"), hall.where("b")), ("b", "a"))
        hall.zone_falls("a")
        self.assertEqual(hall.asks(), [("a", "a"), ("b", "a")])
        self.assertEqual(hall.health("b"), ("ill", 0))
        self.assertEqual(hall.end("a"), "a")
        hall.out("b")
        self.assertEqual(hall.where("b"), "a")

    def test_led_by_caps(self):
        # Without extra two of like weight never differ by more than one.
        hall = Hall(100, 1, 1, 0)
        hall.put("a", "x", 1)
        hall.put("b", "y", 1)
        for place in range(20):
            hall.ask("u" + str(place), "x")
            held = [server[5] for server in hall.servers()]
            self.assertLessEqual(abs(held[0] - held[1]), 1)
            self.assertEqual(sum(held), place + 1)


class AgainTest(HallTest):
    """An asker that asks again."""

    def test_comes_back_whatever_its_zone(self):
        hall = ended_at_b()
        for zone in ("x", "z", "none", "y"):
            self.assertEqual(hall.ask("u", zone), "b")
            hall.end("u")

    def test_comes_back_though_others_are_lighter(self):
        hall = ended_at_b()
        for place in range(5):
            hall.ask("v" + str(place), "y")
        self.assertEqual(hall.ask("u", "none"), "b")

    def test_by_the_last_end_alone(self):
        hall = ended_at_b()
        hall.drain("b")
        self.assertEqual(hall.ask("u", "z"), "c")
        hall.end("u")
        hall.fill("b")
        self.assertEqual(hall.ask("u", "y"), "c")

    def test_where_it_was_moved_to(self):
        hall = three()
        hall.ask("u", "y")
        hall.out("b")
        moved_to = hall.where("u")
        hall.put("b", "y", 1)
        self.assertEqual(hall.end("u"), moved_to)
        self.assertEqual(hall.ask("u", "y"), moved_to)

    def test_the_server_went_out(self):
        hall = ended_at_b()
        hall.out("b")
        self.assertEqual(hall.ask("u", "z"), "c")

    def test_the_server_went_out_and_was_put_in_anew(self):
        hall = ended_at_b()
        hall.out("b")
        hall.put("b", "y", 1)
        self.assertEqual(hall.ask("u", "z"), "c")

    def test_another_went_out(self):
        hall = three()
        for asker, zone in (("u", "y"), ("v", "z")):
            hall.ask(asker, zone)
            hall.end(asker)
        hall.out("c")
        hall.put("c", "z", 1)
        self.assertEqual(hall.ask("u", "x"), "b")
        self.assertEqual(hall.ask("v", "x"), "a")

    def test_the_server_drains(self):
        hall = ended_at_b()
        hall.drain("b")
        self.assertEqual(hall.ask("u", "z"), "c")
        hall = ended_at_b()
        hall.drain("b")
        hall.fill("b")
        self.assertEqual(hall.ask("u", "z"), "b")

    def test_the_server_is_ill(self):
        hall = ended_at_b()
        hall.zone_falls("y")
        self.assertEqual(hall.ask("u", "z"), "c")
        hall = ended_at_b()
        hall.zone_falls("y")
        hall.look("b", True)
        hall.look("b", True)
        self.assertEqual(hall.ask("u", "z"), "b")

    def test_the_server_is_not_free(self):
        hall = Hall(100, 1, 1, 0)
        hall.put("a", "x", 1)
        hall.ask("u", "x")
        hall.end("u")
        hall.ask("v", "x")
        hall.put("b", "y", 1)
        # Two are counted, a's cap is 1, and it holds one.
        self.assertEqual(hall.ask("u", "x"), "b")
        hall.end("u")
        hall.end("v")
        # Its last end was at b, which is free.
        self.assertEqual(hall.ask("u", "x"), "b")

    def test_the_server_is_just_free(self):
        hall = Hall(100, 1, 1, 0)
        hall.put("a", "x", 1)
        hall.ask("u", "x")
        hall.end("u")
        hall.ask("v", "x")
        hall.put("b", "y", 1)
        hall.ask("w", "y")
        # Three are counted, a's cap is 2.
        self.assertEqual(hall.ask("u", "y"), "a")

    def test_a_refused_ask_forgets_nothing(self):
        hall = ended_at_b()
        for name in ("a", "b", "c"):
            hall.drain(name)
        self.assert_refused(NoServer, hall, "ask", "u", "x")
        for name in ("a", "b", "c"):
            hall.fill(name)
        self.assertEqual(hall.ask("u", "x"), "b")
        self.assert_refused(Twice, hall, "ask", "u", "x")
        hall.end("u")
        self.assertEqual(hall.ask("u", "x"), "b")

    def test_a_lost_one_was_nowhere(self):
        hall = ended_at_b()
        hall.ask("u", "y")
        hall.drain("a")
        hall.drain("c")
        hall.look("b", False)
        hall.look("b", False)
        self.assertEqual(hall.log()[-1], ("lost", "u", "b"))
        hall.look("b", True)
        hall.look("b", True)
        hall.fill("c")
        self.assertEqual(hall.ask("u", "z"), "c")

    def test_each_asker_has_its_own(self):
        hall = three()
        for asker, zone in (("u", "x"), ("v", "y"), ("w", "z")):
            hall.ask(asker, zone)
        for asker in ("u", "v", "w"):
            hall.end(asker)
        self.assertEqual([hall.ask(asker, "none") for asker in ("w", "v", "u")], ["c", "b", "a"])


class ToldTest(HallTest):
    def busy(self):
        hall = three()
        for asker, zone in (("u", "x"), ("v", "y"), ("w", "z")):
            hall.ask(asker, zone)
        hall.look("a", False)
        return hall

    def test_kinds(self):
        hall = self.busy()
        for server in hall.servers():
            self.assertIs(type(server), tuple)
            self.assertEqual([type(thing) for thing in server], [str, str, int, str, bool, int])
        for ask in hall.asks():
            self.assertIs(type(ask), tuple)
            self.assertEqual([type(thing) for thing in ask], [str, str])
        self.assertTrue(all([type(entry) is tuple for entry in hall.log()]))
        self.assertIs(type(hall.health("a")), tuple)
        self.assertEqual([type(thing) for thing in hall.health("a")], [str, int])
        self.assertIs(type(hall.evening()), int)

    def test_nothing_is_told_by_most_deeds(self):
        hall = self.busy()
        for deed in (("put", "d", "x", 1), ("weigh", "d", 2), ("drain", "d"), ("drain", "d"), ("fill", "d"),
                     ("fill", "d"), ("look", "d", True), ("look", "d", False), ("look", "d", False), ("out", "d"),
                     ("zone_falls", "x"), ("zone_falls", "x")):
            with self.subTest(deed=deed):
                self.assertIsNone(answer(hall, deed))

    def test_what_is_told_is_the_askers_own(self):
        for told in ("servers", "asks", "log"):
            hall = self.busy()
            first = by_words.do(hall, (told,))
            same = list(first)
            self.assertIs(type(first), list)
            first.append(7)
            first[0] = None
            self.assertEqual(by_words.do(hall, (told,)), same)
            by_words.do(hall, (told,)).clear()
            self.assertEqual(by_words.do(hall, (told,)), same)
            self.assertIsNot(by_words.do(hall, (told,)), by_words.do(hall, (told,)))

    def test_empty_lists_are_the_askers_own(self):
        hall = wide()
        for told in ("servers", "asks", "log"):
            by_words.do(hall, (told,)).append(7)
            self.assertEqual(by_words.do(hall, (told,)), [])
        self.assertEqual(wide().log(), [])

    def test_what_was_told_stays_behind_deeds(self):
        hall = self.busy()
        servers, asks, log = hall.servers(), hall.asks(), hall.log()
        kept = (list(servers), list(asks), list(log))
        for deed in (("put", "d", "x", 1), ("weigh", "b", 2), ("drain", "a"), ("out", "b"), ("ask", "q", "x"),
                     ("end", "u"), ("zone_falls", "z"), ("evening",)):
            answer(hall, deed)
            self.assertEqual((servers, asks, log), kept)
        self.assertNotEqual((hall.servers(), hall.asks(), hall.log()), kept)

    def test_asking_changes_nothing(self):
        hall = self.busy()
        ahead = all_told(hall)
        for name in ("a", "u", "x", "none"):
            hall.where(name)
            answer(hall, ("health", name))
        hall.servers(), hall.asks(), hall.log()
        self.assertEqual(all_told(hall), ahead)

    def test_where_and_health_of_any_name(self):
        hall = self.busy()
        self.assertIsNone(hall.where("a"))
        self.assertIsNone(hall.where("none"))
        self.assertEqual(hall.where("u"), "a")
        self.assert_refused(Unknown, hall, "health", "u")
        self.assert_refused(Unknown, hall, "health", "x")
        self.assertEqual(hall.health("a"), ("well", 1))


if __name__ == "__main__":
    unittest.main()

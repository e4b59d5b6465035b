import random
import unittest

import by_words
from by_words import answer, check_refusal
from usher.desk import Desk
from usher.errors import NoLine, NoServer, Twice, Unknown
from usher.halls import Hall

ALL = "log 999999999"


def desk_behind(lines, size=100, rise=2, fall=2, extra=1000):
    desk = Desk(size, rise, fall, extra)
    for line in lines:
        desk.say(line)
    return desk


THREE = ("put a x 1", "put b y 2", "put c z 20")


class DeskTest(unittest.TestCase):
    def assert_answers(self, desk, *lines_and_answers):
        for line, wanted in lines_and_answers:
            with self.subTest(line=line):
                told = desk.say(line)
                self.assertIs(type(told), str)
                self.assertEqual(told, wanted)

    def assert_refused(self, refusal, desk, line):
        ahead = (desk.say("servers"), desk.say(ALL))
        with self.subTest(line=line):
            check_refusal(self, refusal, desk, ("say", line))
            self.assertEqual((desk.say("servers"), desk.say(ALL)), ahead)


class LinesTest(DeskTest):
    def test_a_new_desk(self):
        self.assert_answers(Desk(100, 1, 1, 0), ("servers", "-"), (ALL, "-"), ("log 0", "-"), ("log 5", "-"),
                            ("row u", "-"), ("where u", "-"), ("evening", "0"))

    def test_servers(self):
        desk = Desk(100, 2, 2, 1000)
        self.assert_answers(
            desk,
            ("put web1 east 3", "ok"), ("servers", "web1 east 3 well 0"),
            ("put a x 20", "ok"), ("servers", "web1 east 3 well 0; a x 20 well 0"),
            ("weigh web1 1", "ok"), ("servers", "web1 east 1 well 0; a x 20 well 0"),
            ("drain web1", "ok"), ("servers", "web1 east 1 well 0 drains; a x 20 well 0"),
            ("drain web1", "ok"),
            ("ask u east", "a"), ("servers", "web1 east 1 well 0 drains; a x 20 well 1"),
            ("fill web1", "ok"), ("servers", "web1 east 1 well 0; a x 20 well 1"),
            ("drain a", "ok"), ("servers", "web1 east 1 well 0; a x 20 well 1 drains"),
            ("bad web1", "ok"), ("servers", "web1 east 1 well 0; a x 20 well 1 drains"),
            ("bad web1", "ok"), ("servers", "web1 east 1 ill 0; a x 20 well 1 drains"),
            ("falls x", "ok"), ("servers", "web1 east 1 ill 0; a x 20 ill 0 drains"),
            ("good web1", "ok"), ("good web1", "ok"), ("servers", "web1 east 1 well 0; a x 20 ill 0 drains"),
            ("out web1", "ok"), ("servers", "a x 20 ill 0 drains"),
            ("out a", "ok"), ("servers", "-"),
        )

    def test_asks(self):
        desk = desk_behind(THREE)
        self.assert_answers(
            desk,
            ("ask u y", "b"), ("where u", "b"), ("where v", "-"), ("where b", "-"),
            ("ask v x", "a"), ("end u", "b"), ("where u", "-"), ("ask u z", "b"),
            ("out b", "ok"), ("where u", "c"), ("end u", "c"), ("end v", "a"),
        )

    def test_good_and_bad(self):
        desk = Desk(100, 1, 2, 0)
        self.assert_answers(desk, ("put a x 1", "ok"), ("bad a", "ok"), ("good a", "ok"), ("bad a", "ok"),
                            ("servers", "a x 1 well 0"), ("bad a", "ok"), ("servers", "a x 1 ill 0"),
                            ("good a", "ok"), ("servers", "a x 1 well 0"))

    def test_evening(self):
        desk = Desk(100, 1, 1, 0)
        self.assert_answers(desk, ("put a x 1", "ok"), ("evening", "0"))
        for number in range(24):
            desk.say("ask u" + str(number) + " x")
        self.assert_answers(desk, ("evening", "0"), ("put b y 1", "ok"), ("evening", "12"), ("evening", "0"),
                            ("servers", "a x 1 well 12; b y 1 well 12"))

    def test_row(self):
        # On a ring of 100: a at 12 and 15, z at 90 (test_rings has them).
        desk = desk_behind(("put z x 1", "put a y 2"))
        self.assert_answers(desk, ("row a", "a z"), ("row z", "z a"))
        desk.say("drain z")
        desk.say("falls y")
        self.assert_answers(desk, ("row a", "a z"), ("row z", "z a"))
        desk.say("out a")
        self.assert_answers(desk, ("row a", "z"), ("row z", "z"))

    def test_row_by_the_words_of_the_document(self):
        for size in (1, 7, 100, 10 ** 9):
            desk = desk_behind(("put web1 x 3", "put db y 20", "put c x 1", "drain c", "put b9 w 7", "falls w"), size)
            servers = [("web1", "x", 3, "well", False, 0), ("db", "y", 20, "well", False, 0),
                       ("c", "x", 1, "well", True, 0), ("b9", "w", 7, "ill", False, 0)]
            for asker in ("u", "web1", "z9999999", "abc", "q7"):
                self.assert_answers(desk, ("row " + asker, " ".join(by_words.row(servers, asker, size))))

    def test_log(self):
        desk = desk_behind(THREE)
        for line in ("ask u y", "drain b", "fill b", "weigh b 7", "out b", "end u", "ask u x", "falls x", "good a",
                     "good a", "drain c", "ask v x"):
            desk.say(line)
        desk.say("bad a")
        desk.say("bad a")
        entries = ["put a x 1", "put b y 2", "put c z 20", "open u b", "drain b", "fill b", "weigh b 7", "out b",
                   "moved u b c", "end u c", "open u c", "ill a", "well a", "drain c", "open v a", "ill a", "lost v a"]
        for number in (1, 2, 3, 16, 17, 18, 1000, 999999999):
            self.assert_answers(desk, ("log " + str(number), "; ".join(entries[-number:])))
        self.assert_answers(desk, ("log 0", "-"))

    def test_the_bounds_of_weights(self):
        desk = Desk(100, 1, 1, 0)
        self.assert_answers(desk, ("put a x 1", "ok"), ("put b x 20", "ok"), ("weigh a 20", "ok"), ("weigh b 1", "ok"),
                            ("servers", "a x 20 well 0; b x 1 well 0"))

    def test_names_like_the_words_of_lines(self):
        desk = Desk(100, 1, 1, 1000)
        self.assert_answers(desk, ("put put put 1", "ok"), ("put log servers 2", "ok"), ("ask ask put", "put"),
                            ("where ask", "put"), ("drain put", "ok"), ("end ask", "put"), ("falls servers", "ok"),
                            ("servers", "put put 1 well 0 drains; log servers 2 ill 0"))

    def test_the_longest_names(self):
        desk = Desk(10 ** 9, 100, 100, 0)
        self.assert_answers(desk, ("put z9999999 a0000000 20", "ok"), ("ask q2345678 b", "z9999999"),
                            ("where q2345678", "z9999999"))

    def test_two_desks_are_apart(self):
        first, second = desk_behind(THREE), desk_behind(())
        first.say("ask u x")
        self.assert_answers(second, ("servers", "-"), (ALL, "-"), ("where u", "-"), ("put a q 3", "ok"))
        self.assert_answers(first, ("where u", "a"), ("servers", "a x 1 well 1; b y 2 well 0; c z 20 well 0"))


class RefusedTest(DeskTest):
    def assert_no_lines(self, desk, *lines):
        for line in lines:
            self.assert_refused(NoLine, desk, line)

    def test_refused_as_the_hall_is(self):
        desk = desk_behind(THREE + ("ask u x",))
        for line in ("put a x 1", "put c w 9", "ask u x", "ask u none"):
            self.assert_refused(Twice, desk, line)
        for line in ("weigh d 1", "drain d", "fill d", "out d", "good d", "bad d", "falls w", "falls a", "end v",
                     "end a"):
            self.assert_refused(Unknown, desk, line)
        for name in ("a", "b", "c"):
            desk.say("drain " + name)
        self.assert_refused(NoServer, desk, "ask v x")
        self.assert_refused(Twice, desk, "ask u x")

    def test_no_signs_and_blanks(self):
        self.assert_no_lines(desk_behind(THREE), "", " ", "  ", "   ")

    def test_words_that_are_no_lines(self):
        self.assert_no_lines(
            desk_behind(THREE), "x", "putt a x 1", "Put d x 1", "PUT d x 1", "look a", "zone_falls x", "zone x",
            "health a", "asks", "ok", "-", "0", "open u x", "moved u a b", "say", "Evening", "help a", "weight a 1",
            "is a", "servers;", "put",
        )

    def test_too_few_words(self):
        self.assert_no_lines(
            desk_behind(THREE + ("ask u x",)), "put", "put d", "put d x", "weigh", "weigh a", "drain", "fill", "out",
            "good", "bad", "falls", "ask", "ask v", "end", "where", "row", "log",
        )

    def test_too_many_words(self):
        self.assert_no_lines(
            desk_behind(THREE + ("ask u x",)), "put d x 1 1", "put d x 1 x", "weigh a 1 1", "drain a b", "fill a b",
            "out a b", "good a b", "bad a b", "falls x y", "ask v x y", "end u u", "evening a", "evening 1",
            "where u v", "servers a", "servers 1", "row u v", "log 1 1", "evening evening",
        )

    def test_blanks_ahead_behind_and_two(self):
        desk = desk_behind(THREE + ("ask u x",))
        for line in ("put d x 1", "weigh a 2", "drain a", "fill a", "out a", "good a", "bad a", "falls x", "ask v x",
                     "end u", "evening", "where u", "servers", "row u", "log 1"):
            self.assert_no_lines(desk, " " + line, line + " ", "  " + line, line + "  ", " " + line + " ")
            if " " in line:
                self.assert_no_lines(desk, line.replace(" ", "  ", 1), line.replace(" ", "  "))
                self.assert_no_lines(desk, line.replace(" ", ""))

    def test_other_signs_between_words(self):
        desk = desk_behind(THREE)
        for sign in ("\t", "\n", "\r", ",", ";", "_", "\u00a0", "\u3000"):
            self.assert_no_lines(desk, "drain" + sign + "a", "evening" + sign, sign + "evening", "drain a" + sign)

    def test_names_that_are_none(self):
        desk = desk_behind(THREE + ("ask u x",))
        for name in ("A", "1", "1a", "a_b", "a-b", "abcdefghi", "aB", "a.", "-", "\u00e9", "a\n", "0", "ab?"):
            self.assert_no_lines(
                desk, "put " + name + " x 1", "put d " + name + " 1", "weigh " + name + " 1", "drain " + name,
                "fill " + name, "out " + name, "good " + name, "bad " + name, "falls " + name, "ask " + name + " x",
                "ask v " + name, "end " + name, "where " + name, "row " + name,
            )

    def test_weights_that_are_none(self):
        desk = desk_behind(THREE)
        for weight in ("0", "21", "100", "999999999", "1000000000", "01", "00", "-1", "+1", "1.0", "a", "one", "1e1",
                       "\u0661", "1_0", "x1", "20.", "1\n"):
            self.assert_no_lines(desk, "put d x " + weight, "weigh a " + weight)

    def test_numbers_of_entries_that_are_none(self):
        desk = desk_behind(THREE)
        for number in ("", "00", "01", "-1", "+1", "1.0", "a", "1000000000", "0000000001", "\u0661", "1_0", "x"):
            self.assert_no_lines(desk, "log " + number)

    def test_words_in_another_order(self):
        self.assert_no_lines(desk_behind(THREE), "put d 1 x", "put 1 d x", "a drain", "1 log", "weigh 1 a", "u ask x")

    def test_no_line_ahead_of_all_else(self):
        desk = desk_behind(THREE + ("ask u x",))
        # These would be refused with Twice.
        self.assert_no_lines(desk, "put a x 0", "put a x 21", "put a X 1", "ask u X", "ask u", "put a x 1 ")
        # These with Unknown.
        self.assert_no_lines(desk, "weigh d 0", "weigh d 21", "weigh d", "drain d d", "end v v", "falls w ", "out D")
        for name in ("a", "b", "c"):
            desk.say("drain " + name)
        # These with NoServer.
        self.assert_no_lines(desk, "ask v", "ask v X", "ask V x", "ask v x x", " ask v x")

    def test_a_long_text(self):
        self.assert_no_lines(desk_behind(THREE), "a" * 200, "a " * 100, "put " * 50, "evening" * 28, " " * 200)

    def test_a_refused_line_changes_nothing(self):
        # Also nothing that shows later: rows of looks, and where an asker ended.
        desk = desk_behind(THREE + ("ask u y", "end u", "bad a"))
        self.assert_no_lines(desk, "bad a a", "good a ", "ask u", "out b b", "put a x 0")
        self.assert_refused(Twice, desk, "put a x 1")
        self.assert_refused(Unknown, desk, "bad d")
        self.assert_answers(desk, ("ask u x", "b"), ("bad a", "ok"), ("log 1", "ill a"))


class HallBesideTest(DeskTest):
    def text_of(self, told):
        if told is None:
            return "ok"
        return str(told) if isinstance(told, int) else told

    def test_a_desk_beside_a_hall(self):
        for seed in range(20):
            chance = random.Random(seed)
            made = (chance.choice((1, 100, 10 ** 9)), chance.choice((1, 2)), chance.choice((1, 2)),
                    chance.choice((0, 50, 1000)))
            desk, hall = Desk(*made), Hall(*made)
            for turn in range(150):
                name, zone = chance.choice(("a", "b", "c")), chance.choice(("x", "y"))
                asker, weight = chance.choice(("u", "v", "w", "a", "b")), chance.choice((1, 2, 20))
                line, deed = chance.choice((
                    (f"put {name} {zone} {weight}", ("put", name, zone, weight)),
                    (f"put {name} {zone} {weight}", ("put", name, zone, weight)),
                    (f"weigh {name} {weight}", ("weigh", name, weight)), (f"drain {name}", ("drain", name)),
                    (f"fill {name}", ("fill", name)), (f"out {name}", ("out", name)),
                    (f"good {name}", ("look", name, True)), (f"bad {name}", ("look", name, False)),
                    (f"falls {zone}", ("zone_falls", zone)), ("evening", ("evening",)),
                    (f"ask {asker} {zone}", ("ask", asker, zone)), (f"ask {asker} {zone}", ("ask", asker, zone)),
                    (f"ask {asker} {zone}", ("ask", asker, zone)), (f"end {asker}", ("end", asker)),
                ))
                self.assertEqual(answer(desk, ("say", line)), self.text_of(answer(hall, deed)))
                self.assert_told_as(desk, hall)

    def assert_told_as(self, desk, hall):
        log = [" ".join([str(thing) for thing in entry]) for entry in hall.log()]
        self.assertEqual(desk.say(ALL), "; ".join(log) or "-")
        self.assertEqual(desk.say("log 2"), "; ".join(log[-2:]) or "-")
        texts = []
        for name, zone, weight, word, drains, held in hall.servers():
            texts.append(f"{name} {zone} {weight} {word} {held}" + (" drains" if drains else ""))
        self.assertEqual(desk.say("servers"), "; ".join(texts) or "-")
        for asker in ("u", "a", "none"):
            self.assertEqual(desk.say("where " + asker), hall.where(asker) or "-")


if __name__ == "__main__":
    unittest.main()

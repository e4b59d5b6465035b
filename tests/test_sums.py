import copy
import random
import unittest

from by_words import answer
from usher.halls import Hall
from usher.sums import first_wrong, summed


def hall_behind(seed, deeds):
    chance = random.Random(seed)
    hall = Hall(100, chance.choice((1, 2)), chance.choice((1, 2)), chance.choice((0, 50, 1000)))
    for turn in range(deeds):
        name, zone = chance.choice(("a", "b", "c", "d", "e")), chance.choice(("x", "y"))
        asker, weight = chance.choice(("u", "v", "w", "q", "a", "b")), chance.choice((1, 2, 20))
        answer(hall, chance.choice((
            ("put", name, zone, weight), ("put", name, zone, weight), ("put", name, zone, weight),
            ("weigh", name, weight), ("drain", name), ("fill", name), ("out", name), ("look", name, False),
            ("look", name, True), ("look", name, True), ("zone_falls", zone), ("evening",), ("end", asker),
            ("ask", asker, zone), ("ask", asker, zone), ("ask", asker, zone),
        )))
    return hall


def wrong_by_words(log):
    # Point 28, told apart from the program: what stands is read anew from all entries ahead of each one.
    for place, entry in enumerate(log):
        if not can_be_by_words(log[:place], entry):
            return place
    return None


def servers_by_words(entries):
    # From each name that stands to whether it is well and whether it drains.
    found = {}
    for entry in entries:
        word, name = entry[0], entry[1]
        if word == "put":
            found[name] = (True, False)
        elif word == "out":
            found = {other: found[other] for other in found if other != name}
        elif word in ("ill", "well"):
            found[name] = (word == "well", found[name][1])
        elif word in ("drain", "fill"):
            found[name] = (found[name][0], word == "drain")
    return found


def place_by_words(entries, asker):
    of_asker = [entry for entry in entries if entry[0] in ("open", "moved", "end", "lost") and entry[1] == asker]
    if not of_asker or of_asker[-1][0] in ("end", "lost"):
        return None
    return of_asker[-1][-1]


def can_be_by_words(ahead, entry):
    word, name = entry[0], entry[1]
    servers = servers_by_words(ahead)
    live = [other for other in servers if servers[other] == (True, False)]
    if word == "put":
        return name not in servers
    if word in ("weigh", "out"):
        return name in servers
    if word in ("drain", "fill"):
        return name in servers and servers[name][1] == (word == "fill")
    if word in ("ill", "well"):
        return name in servers and servers[name][0] == (word == "ill")
    at = place_by_words(ahead, name)
    if word == "open":
        return at is None and entry[2] in live
    if word == "moved":
        return at == entry[2] and entry[3] in live and entry[3] != entry[2]
    return at == entry[2]


class SummedTest(unittest.TestCase):
    def assert_summed(self, log, servers, asks):
        told = summed(log)
        self.assertIs(type(told), tuple)
        self.assertEqual([type(thing) for thing in told], [list, dict])
        self.assertEqual(told, (servers, asks))

    def test_no_entries(self):
        self.assert_summed([], [], {})

    def test_servers(self):
        log = [("put", "b", "x", 3), ("put", "a", "y", 1)]
        self.assert_summed(log, [("b", "x", 3, "well", False, 0), ("a", "y", 1, "well", False, 0)], {})
        for entry, server in (
            (("weigh", "b", 20), ("b", "x", 20, "well", False, 0)),
            (("weigh", "b", 3), ("b", "x", 3, "well", False, 0)),
            (("drain", "b"), ("b", "x", 3, "well", True, 0)),
            (("ill", "b"), ("b", "x", 3, "ill", False, 0)),
        ):
            self.assert_summed(log + [entry], [server, ("a", "y", 1, "well", False, 0)], {})
        for entries in ([("drain", "b"), ("fill", "b")], [("ill", "b"), ("well", "b")]):
            self.assert_summed(log + entries, summed(log)[0], {})
        self.assert_summed(log + [("ill", "b"), ("drain", "b"), ("well", "b")],
                           [("b", "x", 3, "well", True, 0), ("a", "y", 1, "well", False, 0)], {})

    def test_out_and_anew(self):
        log = [("put", "b", "x", 3), ("put", "a", "y", 1), ("drain", "b"), ("ill", "b"), ("out", "b")]
        self.assert_summed(log, [("a", "y", 1, "well", False, 0)], {})
        self.assert_summed(log + [("put", "b", "z", 5)],
                           [("a", "y", 1, "well", False, 0), ("b", "z", 5, "well", False, 0)], {})

    def test_asks(self):
        log = [("put", "a", "x", 1), ("put", "b", "x", 1), ("open", "u", "a"), ("open", "v", "b"), ("open", "a", "a")]
        self.assert_summed(log, [("a", "x", 1, "well", False, 2), ("b", "x", 1, "well", False, 1)],
                           {"u": "a", "v": "b", "a": "a"})
        log += [("end", "u", "a"), ("ill", "b"), ("moved", "v", "b", "a")]
        self.assert_summed(log, [("a", "x", 1, "well", False, 2), ("b", "x", 1, "ill", False, 0)],
                           {"v": "a", "a": "a"})
        log += [("out", "a"), ("lost", "v", "a"), ("lost", "a", "a")]
        self.assert_summed(log, [("b", "x", 1, "ill", False, 0)], {})

    def test_asks_at_a_draining_server(self):
        log = [("put", "a", "x", 1), ("open", "u", "a"), ("drain", "a")]
        self.assert_summed(log, [("a", "x", 1, "well", True, 1)], {"u": "a"})

    def test_the_log_of_a_hall_sums_to_what_stands(self):
        forms = set()
        for seed in range(60):
            for deeds in (0, 1, 2, 5, 20, 80):
                hall = hall_behind(seed, deeds)
                self.assert_summed(hall.log(), hall.servers(), dict(hall.asks()))
                self.assertIsNone(first_wrong(hall.log()))
                forms.update([entry[0] for entry in hall.log()])
        self.assertEqual(len(forms), 11)

    def test_four_thousand_entries(self):
        log = [("put", "a", "x", 1)]
        for number in range(1000):
            log += [("open", "u", "a"), ("end", "u", "a"), ("drain", "a"), ("fill", "a")]
        self.assert_summed(log, [("a", "x", 1, "well", False, 0)], {})
        self.assertIsNone(first_wrong(log))
        self.assertEqual(first_wrong(log + [("fill", "a")]), len(log))

    def test_what_is_handed_in_stays_and_what_is_told_is_new(self):
        for log in ([], hall_behind(3, 80).log()):
            kept = copy.deepcopy(log)
            told = summed(log)
            same = (list(told[0]), dict(told[1]))
            self.assertEqual(log, kept)
            told[0].append(7)
            told[1]["other"] = "a"
            self.assertEqual(log, kept)
            self.assertEqual(summed(log), same)
            self.assertIsNone(first_wrong(log))
            self.assertEqual(log, kept)


class FirstWrongTest(unittest.TestCase):
    # Two that are well, one that drains, one that is ill, one that is both, one that is out; u stands at a.
    BEGIN = [("put", "a", "x", 1), ("put", "b", "x", 2), ("put", "d", "y", 1), ("drain", "d"), ("put", "i", "y", 1),
             ("ill", "i"), ("put", "di", "y", 1), ("ill", "di"), ("drain", "di"), ("put", "o", "x", 1),
             ("open", "u", "a"), ("open", "w", "o"), ("out", "o"), ("open", "e", "b"), ("end", "e", "b"),
             ("open", "l", "b"), ("lost", "l", "b")]
    STANDING = ("a", "b", "d", "i", "di")
    NAMES = STANDING + ("o", "none", "u", "x")

    def assert_can_be(self, *entries):
        with self.subTest(entries=entries):
            self.assertIsNone(first_wrong(self.BEGIN + list(entries)))

    def assert_can_not_be(self, *entries):
        # The last of these is the first that can not be; what comes behind it is not looked at.
        log = self.BEGIN + list(entries)
        with self.subTest(entries=entries):
            self.assertIsNone(first_wrong(log[:-1]))
            self.assertEqual(first_wrong(log), len(log) - 1)
            self.assertEqual(first_wrong(log + [("put", "new", "x", 1), ("out", "never")]), len(log) - 1)

    def assert_only(self, names, make):
        for name in self.NAMES:
            if name in names:
                self.assert_can_be(make(name))
            else:
                self.assert_can_not_be(make(name))

    def test_no_entries(self):
        self.assertIsNone(first_wrong([]))

    def test_the_first_entry(self):
        self.assertIsNone(first_wrong([("put", "a", "x", 1)]))
        for entry in (("weigh", "a", 1), ("drain", "a"), ("fill", "a"), ("out", "a"), ("ill", "a"), ("well", "a"),
                      ("open", "u", "a"), ("end", "u", "a"), ("moved", "u", "a", "b"), ("lost", "u", "a")):
            self.assertEqual(first_wrong([entry]), 0)
            self.assertEqual(first_wrong([entry, entry]), 0)

    def test_put(self):
        self.assert_only(("o", "none", "u", "x"), lambda name: ("put", name, "x", 1))
        self.assert_can_not_be(("put", "none", "x", 1), ("put", "none", "y", 2))
        self.assert_can_be(("out", "a"), ("put", "a", "x", 1))

    def test_weigh(self):
        for weight in (1, 2, 20):
            self.assert_only(self.STANDING, lambda name: ("weigh", name, weight))
        self.assert_can_be(("weigh", "a", 1), ("weigh", "a", 1))

    def test_drain(self):
        self.assert_only(("a", "b", "i"), lambda name: ("drain", name))
        self.assert_can_not_be(("drain", "a"), ("drain", "a"))
        self.assert_can_be(("drain", "a"), ("fill", "a"), ("drain", "a"))

    def test_fill(self):
        self.assert_only(("d", "di"), lambda name: ("fill", name))
        self.assert_can_not_be(("fill", "d"), ("fill", "d"))
        self.assert_can_be(("fill", "d"), ("drain", "d"), ("fill", "d"))

    def test_out(self):
        self.assert_only(self.STANDING, lambda name: ("out", name))
        self.assert_can_not_be(("out", "a"), ("out", "a"))

    def test_ill(self):
        self.assert_only(("a", "b", "d"), lambda name: ("ill", name))
        self.assert_can_not_be(("ill", "d"), ("ill", "d"))
        self.assert_can_be(("ill", "d"), ("well", "d"), ("ill", "d"))

    def test_well(self):
        self.assert_only(("i", "di"), lambda name: ("well", name))
        self.assert_can_not_be(("well", "di"), ("well", "di"))
        self.assert_can_be(("well", "i"), ("ill", "i"), ("well", "i"))

    def test_open(self):
        # A new asker, one that ended, one that was lost, one called like a server.
        for asker in ("new", "e", "l", "a"):
            self.assert_only(("a", "b"), lambda name: ("open", asker, name))
        for asker in ("u", "w"):
            self.assert_only((), lambda name: ("open", asker, name))
        self.assert_can_not_be(("open", "new", "a"), ("open", "new", "a"))
        self.assert_can_not_be(("open", "new", "a"), ("open", "new", "b"))
        self.assert_can_be(("open", "new", "a"), ("end", "new", "a"), ("open", "new", "b"))
        self.assert_can_be(("fill", "d"), ("open", "new", "d"))
        self.assert_can_be(("well", "i"), ("open", "new", "i"))
        self.assert_can_not_be(("well", "di"), ("open", "new", "di"))
        self.assert_can_not_be(("fill", "di"), ("open", "new", "di"))
        self.assert_can_not_be(("out", "a"), ("open", "new", "a"))

    def test_end_and_lost(self):
        for word in ("end", "lost"):
            self.assert_only(("a",), lambda name: (word, "u", name))
            # The server of w is out, its ask stands there all the same.
            self.assert_only(("o",), lambda name: (word, "w", name))
            for asker in ("e", "l", "none", "a"):
                self.assert_only((), lambda name: (word, asker, name))
            self.assert_can_not_be((word, "u", "a"), (word, "u", "a"))
            # Nothing else is looked at: the server may be well, ill, drain, or be another of that name.
            self.assert_can_be(("ill", "a"), (word, "u", "a"))
            self.assert_can_be(("drain", "a"), (word, "u", "a"))
            self.assert_can_be(("out", "a"), ("put", "a", "z", 9), (word, "u", "a"))

    def test_moved(self):
        self.assert_only(("b",), lambda name: ("moved", "u", "a", name))
        # From a server that is out.
        self.assert_only(("a", "b"), lambda name: ("moved", "w", "o", name))
        # Only from where it stands.
        for asker in ("u", "w", "e", "l", "none"):
            for first in ("b", "d", "i", "none"):
                self.assert_only((), lambda name: ("moved", asker, first, name))
        # Not to the same name, though it was put in anew and is live.
        self.assert_can_not_be(("put", "o", "x", 1), ("moved", "w", "o", "o"))
        self.assert_can_be(("moved", "u", "a", "b"), ("moved", "u", "b", "a"))
        self.assert_can_not_be(("moved", "u", "a", "b"), ("moved", "u", "a", "b"))
        self.assert_can_not_be(("moved", "u", "a", "b"), ("end", "u", "a"))
        self.assert_can_be(("moved", "u", "a", "b"), ("end", "u", "b"))
        self.assert_can_not_be(("drain", "b"), ("moved", "u", "a", "b"))
        self.assert_can_not_be(("ill", "b"), ("moved", "u", "a", "b"))

    def test_what_a_hall_would_not_do_but_can_be(self):
        # Above its cap, moved without need, left where it can not stay.
        log = [("put", "a", "x", 1), ("put", "b", "x", 1), ("open", "u", "a"), ("open", "v", "a"), ("open", "w", "a"),
               ("moved", "u", "a", "b"), ("moved", "u", "b", "a"), ("ill", "a"), ("well", "a"), ("out", "a"),
               ("put", "a", "y", 1), ("lost", "v", "a"), ("end", "u", "a")]
        self.assertIsNone(first_wrong(log))

    def test_the_place_of_the_first_one(self):
        log = hall_behind(5, 200).log()
        for place in range(0, len(log) + 1, 7):
            wrong = log[:place] + [("out", "never")] + log[place:]
            self.assertEqual(first_wrong(wrong), place)
            self.assertEqual(first_wrong(wrong + [("out", "never")]), place)
        self.assertIs(type(first_wrong([("out", "never")])), int)

    def test_spoiled_logs_by_the_words_of_the_document(self):
        wrong = 0
        for seed in range(150):
            chance = random.Random(seed)
            log = hall_behind(seed, 60).log()
            for spoil in range(5):
                if not log:
                    continue
                spoiled = list(log)
                place = chance.randrange(len(spoiled))
                if spoil == 0:
                    spoiled.pop(place)
                elif spoil == 1:
                    spoiled.insert(place, spoiled[chance.randrange(len(spoiled))])
                elif spoil == 2:
                    other = chance.randrange(len(spoiled))
                    spoiled[place], spoiled[other] = spoiled[other], spoiled[place]
                else:
                    spoiled = spoiled[:place] + [some_entry(chance) for time in range(4)] + spoiled[place:]
                told = first_wrong(spoiled)
                self.assertEqual(told, wrong_by_words(spoiled))
                wrong += told is not None
        self.assertGreater(wrong, 200)

    def test_entries_by_chance_by_the_words_of_the_document(self):
        for seed in range(300):
            chance = random.Random(seed)
            log = [("put", "a", "x", 1), ("put", "b", "x", 1)]
            for turn in range(60):
                entry = some_entry(chance)
                can_be = can_be_by_words(log, entry)
                self.assertEqual(first_wrong(log + [entry]), None if can_be else len(log))
                if can_be:
                    log.append(entry)


def some_entry(chance):
    name, asker = chance.choice(("a", "b", "c")), chance.choice(("u", "v", "a"))
    return chance.choice((
        ("put", name, "x", 1), ("weigh", name, 2), ("drain", name), ("fill", name), ("out", name), ("ill", name),
        ("well", name), ("open", asker, name), ("open", asker, name), ("end", asker, name), ("lost", asker, name),
        ("moved", asker, name, chance.choice(("a", "b", "c"))), ("moved", asker, name, chance.choice(("a", "b"))),
    ))


if __name__ == "__main__":
    unittest.main()

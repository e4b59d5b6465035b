import math
import random
import unittest
from fractions import Fraction

from by_words import answer, least_height, row
from usher.choosing import chosen, free, is_live
from usher.dealing import height
from usher.errors import NoServer, Twice, Unknown
from usher.halls import Hall
from usher.rings import marks_of, row_from
from usher.spots import spot_of
from usher.sums import first_wrong, summed

SIZES = (1, 7, 100, 10 ** 9)
EXTRAS = (0, 0, 10, 100, 1000)


def cap_in(many, weight, whole, extra):
    return math.ceil(Fraction(many * weight * (100 + extra), 100 * whole))


def live_ones(servers):
    return [server for server in servers if server[3] == "well" and not server[4]]


def caps_in(servers, many, extra):
    live = live_ones(servers)
    whole = sum([server[2] for server in live])
    return {server[0]: cap_in(many, server[2], whole, extra) for server in live}


def standing_at_live(servers):
    return sum([server[5] for server in live_ones(servers)])


class Watch:
    """A hall, with what stood ahead of a deed and behind it, and where each asker ended, kept by the test."""

    def __init__(self, size, rise, fall, extra):
        self.size, self.extra = size, extra
        self.hall = Hall(size, rise, fall, extra)
        self.lasts = {}

    def do(self, deed):
        self.deed = deed
        self.servers, self.asks, self.log = self.hall.servers(), dict(self.hall.asks()), self.hall.log()
        self.told = answer(self.hall, deed)
        self.after, self.asks_after = self.hall.servers(), dict(self.hall.asks())
        self.refused = self.told in (Twice, Unknown, NoServer)
        self.was_last = dict(self.lasts)
        self.note()

    def note(self):
        if self.refused:
            return
        if self.deed[0] == "end":
            self.lasts[self.deed[1]] = self.told
        if self.deed[0] == "out":
            self.lasts = {asker: name for asker, name in self.lasts.items() if name != self.deed[1]}
        for asker in self.asks:
            if asker not in self.asks_after and self.deed[0] != "end":
                self.lasts[asker] = None

    def went(self):
        # The servers that went out or fell ill by the deed.
        words = {server[0]: server[3] for server in self.after}
        return [server[0] for server in self.servers if server[3] == "well" and words.get(server[0]) != "well"] + \
            [server[0] for server in self.servers if server[3] == "ill" and server[0] not in words]

    def moved(self):
        return [asker for asker in self.asks if self.asks_after.get(asker, self.asks[asker]) != self.asks[asker]]

    def gone(self):
        return [asker for asker in self.asks if asker not in self.asks_after]


class PromiseTest(unittest.TestCase):
    def check(self, watch):
        if watch.refused:
            self.check_nothing_changed(watch)
        self.check_who_moved(watch)
        if watch.deed[0] == "evening":
            self.check_evening(watch)
        self.check_gains(watch)
        if watch.deed[0] == "ask" and not watch.refused:
            self.check_ask(watch)
        self.check_height(watch)
        self.check_rows(watch)
        self.check_sum(watch)

    def check_nothing_changed(self, watch):
        self.assertEqual((watch.after, watch.asks_after, watch.hall.log()), (watch.servers, watch.asks, watch.log))

    def check_who_moved(self, watch):
        went = watch.went()
        have_to = [asker for asker in watch.asks if watch.asks[asker] in went]
        if watch.deed[0] == "end" and not watch.refused:
            self.assertEqual(watch.gone(), [watch.deed[1]])
            self.assertEqual(watch.moved(), [])
        elif watch.deed[0] != "evening":
            if went:
                self.assertIn(watch.deed[0], ("out", "look", "zone_falls"))
            # All that stood there, and nobody else, went elsewhere, or ended where none is live.
            if live_ones(watch.after):
                self.assertEqual((watch.moved(), watch.gone()), (have_to, []))
            else:
                self.assertEqual((watch.moved(), watch.gone()), ([], have_to))

    def check_evening(self, watch):
        self.assertEqual(watch.gone(), [])
        self.assertEqual(watch.told, len(watch.moved()))
        caps = caps_in(watch.servers, standing_at_live(watch.servers), watch.extra)
        for server in watch.servers:
            left = [asker for asker in watch.moved() if watch.asks[asker] == server[0]]
            more = max(server[5] - caps[server[0]], 0) if server[0] in caps else 0
            self.assertEqual(len(left), more)
            there = [asker for asker in watch.asks if watch.asks[asker] == server[0]]
            self.assertEqual(left, there[len(there) - more:])
        for server in live_ones(watch.after):
            # With one fewer moved off a server that gave any it would stay above its cap.
            self.assertLessEqual(server[5], caps[server[0]])
            if [asker for asker in watch.moved() if watch.asks[asker] == server[0]]:
                self.assertEqual(server[5], caps[server[0]])

    def check_gains(self, watch):
        caps = caps_in(watch.after, standing_at_live(watch.after), watch.extra)
        for asker, name in watch.asks_after.items():
            if watch.asks.get(asker) != name:
                server = [server for server in watch.after if server[0] == name][0]
                self.assertEqual((server[3], server[4]), ("well", False))
                self.assertLessEqual(server[5], caps[name])

    def check_ask(self, watch):
        asker, zone = watch.deed[1:]
        last = watch.was_last.get(asker)
        if last is not None and last in free(watch.servers, watch.extra):
            self.assertEqual(watch.told, last)
        else:
            self.assertEqual(watch.told, chosen(watch.servers, asker, zone, watch.size, watch.extra))

    def check_height(self, watch):
        moved = watch.moved()
        live = live_ones(watch.after)
        staying = [name for asker, name in watch.asks_after.items() if asker not in moved]
        held = [staying.count(server[0]) for server in live]
        got = [server[5] - number for server, number in zip(live, held)]
        if watch.deed[0] == "ask" or not moved:
            return
        weights = [server[2] for server in live]
        caps = caps_in(watch.after, sum(held) + len(moved), watch.extra)
        top, bottom = height(held, weights, got)
        least = least_height(held, weights, [caps[server[0]] for server in live], len(moved))
        self.assertEqual(sum(got), len(moved))
        self.assertEqual(Fraction(top, bottom), least)

    def check_rows(self, watch):
        pairs = [(server[0], server[2]) for server in watch.after]
        marks = marks_of(pairs, watch.size)
        start = spot_of("u1", 0, watch.size)
        self.assertEqual(row_from(marks, start), row(watch.after, "u1", watch.size))
        for left_out in pairs[:3]:
            rest = marks_of([pair for pair in pairs if pair != left_out], watch.size)
            for spot in (0, start, watch.size - 1):
                self.assertEqual(row_from(rest, spot), [name for name in row_from(marks, spot) if name != left_out[0]])

    def check_sum(self, watch):
        log = watch.hall.log()
        self.assertEqual(log[:len(watch.log)], watch.log)
        self.assertEqual(summed(log), (watch.after, watch.asks_after))
        self.assertIsNone(first_wrong(log))


def some_deed(chance, names, zones, askers):
    name, zone = chance.choice(names), chance.choice(zones)
    asker, weight = chance.choice(askers), chance.choice((1, 1, 2, 3, 7, 20))
    return chance.choice((
        ("put", name, zone, weight), ("put", name, zone, weight), ("put", name, zone, weight),
        ("weigh", name, weight), ("drain", name), ("fill", name), ("fill", name), ("out", name),
        ("look", name, False), ("look", name, True), ("look", name, True), ("zone_falls", zone),
        ("evening",), ("evening",), ("end", asker), ("end", asker), ("end", asker),
        ("ask", asker, zone), ("ask", asker, zone), ("ask", asker, zone), ("ask", asker, zone),
    ))


class DeedsTest(PromiseTest):
    def run_deeds(self, seed, servers, zones, askers, deeds):
        chance = random.Random(seed)
        watch = Watch(chance.choice(SIZES), chance.choice((1, 2, 3)), chance.choice((1, 2, 3)), chance.choice(EXTRAS))
        names = ["s" + str(number) for number in range(servers)]
        zones = ["z" + str(number) for number in range(zones)]
        askers = ["u" + str(number) for number in range(askers)]
        done = {}
        for turn in range(deeds):
            watch.do(some_deed(chance, names, zones, askers))
            with self.subTest(seed=seed, turn=turn, deed=watch.deed):
                self.check(watch)
            done[(watch.deed[0], watch.refused)] = True
        return done

    def test_small_halls(self):
        done = {}
        for seed in range(40):
            done.update(self.run_deeds(seed, 3, 2, 6, 120))
        # Each kind of deed was both done and refused, where it can be.
        for word in ("put", "weigh", "drain", "fill", "out", "look", "zone_falls", "ask", "end"):
            self.assertIn((word, False), done)
            self.assertIn((word, True), done)
        self.assertIn(("evening", False), done)

    def test_halls_of_some_servers(self):
        for seed in range(100, 115):
            self.run_deeds(seed, 8, 3, 30, 200)

    def test_great_halls(self):
        for seed in range(200, 203):
            self.run_deeds(seed, 30, 12, 200, 250)

    def test_names_that_are_alike(self):
        # The same few names for servers, zones and askers.
        for seed in range(300, 320):
            chance = random.Random(seed)
            watch = Watch(100, 1, 2, chance.choice(EXTRAS))
            names = ["a", "b", "c", "d"]
            for turn in range(150):
                watch.do(some_deed(chance, names, names, names))
                with self.subTest(seed=seed, turn=turn, deed=watch.deed):
                    self.check(watch)

    def test_a_full_hall(self):
        # Many stand, few servers go: evenings and moves of many at once.
        for seed, extra in ((400, 0), (401, 5), (402, 50)):
            chance = random.Random(seed)
            watch = Watch(10 ** 9, 1, 1, extra)
            for number in range(12):
                watch.do(("put", "s" + str(number), "z" + str(number % 4), 1 + number % 5))
            for number in range(200):
                watch.do(("ask", "u" + str(number), "z" + str(number % 5)))
            self.assertEqual(len(watch.asks_after), 200)
            for turn in range(40):
                name, zone = "s" + str(chance.randrange(12)), "z" + str(chance.randrange(4))
                watch.do(chance.choice((
                    ("out", name), ("put", name, zone, chance.randrange(1, 21)), ("look", name, False),
                    ("look", name, True), ("weigh", name, chance.randrange(1, 21)), ("evening",), ("evening",),
                    ("drain", name), ("fill", name), ("zone_falls", zone) if turn % 5 == 0 else ("evening",),
                )))
                with self.subTest(seed=seed, turn=turn, deed=watch.deed):
                    self.check(watch)


class FreeTest(unittest.TestCase):
    def test_where_one_is_live_an_ask_is_never_refused_for_room(self):
        for seed in range(500, 520):
            chance = random.Random(seed)
            hall = Hall(100, 1, 1, 0)
            for number in range(6):
                hall.put("s" + str(number), "x", chance.randrange(1, 21))
            for turn in range(60):
                answer(hall, chance.choice((("drain", "s" + str(turn % 6)), ("fill", "s" + str(turn % 6)))))
                told = answer(hall, ("ask", "u" + str(turn), "x"))
                if any([is_live(server) for server in hall.servers()]):
                    self.assertIsInstance(told, str)
                else:
                    self.assertIs(told, NoServer)


if __name__ == "__main__":
    unittest.main()

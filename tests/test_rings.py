import copy
import itertools
import unittest

from usher.rings import lengths, marks_of, row_from
from usher.spots import spot_of

SIGNS = "abcdefghijklmnopqrstuvwxyz0123456789"
SIZES = (1, 2, 3, 7, 40, 100, 997, 10 ** 9)

# Names, lengths and weights of many kinds; thirty is the most that stand.
FEW = [("web1", 3), ("a", 1), ("db", 20), ("z9999999", 5)]
THIRTY = [("s" + SIGNS[place] + str(place), 1 + place * 7 % 20) for place in range(30)]
HALLS = ([], [("a", 1)], [("a", 20)], [("b", 2), ("a", 2)], FEW, THIRTY)


def shuffled(servers):
    return [list(servers), list(reversed(servers)), sorted(servers), servers[1:] + servers[:1]]


def without(servers, name):
    return [server for server in servers if server[0] != name]


def row_by_words(marks, spot):
    # Point 8 read otherwise than the program does: each name by the first place where it is met.
    cut = len([mark for mark in marks if mark[0] < spot])
    names = [name for mark_spot, name in marks[cut:] + marks[:cut]]
    return sorted(set(names), key=names.index)


def telling_spots(marks):
    # Below, at and above each mark, so between any two as well.
    spots = {0, 1, 10 ** 9}
    for mark_spot, name in marks:
        spots.update((max(mark_spot - 1, 0), mark_spot, mark_spot + 1))
    return sorted(spots)


class MarksTest(unittest.TestCase):
    def test_no_servers(self):
        for size in SIZES:
            self.assertEqual(marks_of([], size), [])

    def test_known_marks(self):
        # The spots by the numbers h that test_spots has, reckoned apart from the program.
        self.assertEqual(marks_of([("a", 1)], 100), [(15, "a")])
        self.assertEqual(marks_of([("a", 2)], 100), [(12, "a"), (15, "a")])
        self.assertEqual(
            marks_of([("z", 2), ("a", 2), ("a0", 1)], 10 ** 9),
            [(3138081, "a0"), (213239915, "a"), (214446690, "z"), (278947912, "a"), (280154687, "z")],
        )

    def test_as_many_as_the_weight_by_the_turns_from_0(self):
        for size in SIZES:
            for weight in (1, 2, 19, 20):
                with self.subTest(size=size, weight=weight):
                    spots = sorted([spot_of("web1", turn, size) for turn in range(weight)])
                    self.assertEqual(marks_of([("web1", weight)], size), [(spot, "web1") for spot in spots])

    def test_many_servers(self):
        for size in SIZES:
            for servers in HALLS:
                with self.subTest(size=size, servers=servers):
                    marks = marks_of(servers, size)
                    self.assertEqual(len(marks), sum([weight for name, weight in servers]))
                    for name, weight in servers:
                        found = [spot for spot, other in marks if other == name]
                        self.assertEqual(found, sorted([spot_of(name, turn, size) for turn in range(weight)]))

    def test_sorted_by_spot_then_by_name(self):
        for size in SIZES:
            for servers in HALLS:
                marks = marks_of(servers, size)
                for first, second in zip(marks, marks[1:]):
                    self.assertLessEqual(first[0], second[0])
                    if first[0] == second[0]:
                        self.assertLessEqual(first[1], second[1])

    def test_a_ring_of_one_spot(self):
        servers = [("b", 1), ("aa", 2), ("a1", 3), ("a", 1), ("z", 1)]
        names = ["a", "a1", "a1", "a1", "aa", "aa", "b", "z"]
        self.assertEqual(marks_of(servers, 1), [(0, name) for name in names])

    def test_a_ring_of_two_spots(self):
        # h of a: odd for the turn 0, even for the turn 1; of z: even, then odd; of a0: odd, then even.
        servers = [("z", 2), ("a0", 2), ("a", 2)]
        self.assertEqual(
            marks_of(servers, 2),
            [(0, "a"), (0, "a0"), (0, "z"), (1, "a"), (1, "a0"), (1, "z")],
        )

    def test_a_tuple_that_comes_twice_stands_twice(self):
        self.assertEqual(marks_of([("a", 20)], 1), [(0, "a")] * 20)
        odd = len([turn for turn in range(20) if spot_of("a", turn, 2) == 1])
        self.assertEqual(marks_of([("a", 20)], 2), [(0, "a")] * (20 - odd) + [(1, "a")] * odd)

    def test_servers_in_another_order(self):
        for size in SIZES:
            for servers in HALLS:
                marks = marks_of(servers, size)
                for order in shuffled(servers):
                    self.assertEqual(marks_of(order, size), marks)

    def test_kinds(self):
        for size in SIZES:
            marks = marks_of(FEW, size)
            self.assertIs(type(marks), list)
            for mark in marks:
                self.assertIs(type(mark), tuple)
                self.assertEqual([type(thing) for thing in mark], [int, str])

    def test_what_is_handed_in_stays_and_what_is_told_is_new(self):
        for servers in HALLS:
            kept = copy.deepcopy(servers)
            told = marks_of(servers, 100)
            same = list(told)
            self.assertEqual(servers, kept)
            told.append((7, "x"))
            self.assertEqual(servers, kept)
            self.assertEqual(marks_of(servers, 100), same)


class RowsTest(unittest.TestCase):
    def test_no_marks(self):
        for spot in (0, 1, 100, 10 ** 9):
            self.assertEqual(row_from([], spot), [])

    def test_one_mark(self):
        for spot in (0, 14, 15, 16, 99, 10 ** 9):
            self.assertEqual(row_from([(15, "a")], spot), ["a"])

    def test_below_at_between_and_above(self):
        marks = [(10, "b"), (20, "a"), (30, "c")]
        for spots, row in (
            (range(0, 11), ["b", "a", "c"]),
            (range(11, 21), ["a", "c", "b"]),
            (range(21, 31), ["c", "b", "a"]),
            (range(31, 100), ["b", "a", "c"]),
            ((100, 10 ** 9), ["b", "a", "c"]),
        ):
            for spot in spots:
                with self.subTest(spot=spot):
                    self.assertEqual(row_from(marks, spot), row)

    def test_each_name_once_as_it_is_met(self):
        marks = [(5, "a"), (5, "b"), (8, "b"), (9, "a"), (9, "c"), (9, "c")]
        self.assertEqual(row_from(marks, 0), ["a", "b", "c"])
        self.assertEqual(row_from(marks, 5), ["a", "b", "c"])
        self.assertEqual(row_from(marks, 6), ["b", "a", "c"])
        self.assertEqual(row_from(marks, 9), ["a", "c", "b"])
        self.assertEqual(row_from(marks, 10), ["a", "b", "c"])

    def test_marks_that_share_a_spot(self):
        marks = [(0, "a"), (0, "b"), (0, "b"), (0, "c")]
        for spot in (0, 1, 10 ** 9):
            self.assertEqual(row_from(marks, spot), ["a", "b", "c"])

    def test_rows_by_the_words_of_the_document(self):
        for size in SIZES:
            for servers in HALLS:
                marks = marks_of(servers, size)
                for spot in telling_spots(marks):
                    row = row_from(marks, spot)
                    self.assertEqual(row, row_by_words(marks, spot))
                    self.assertEqual(sorted(row), sorted([name for name, weight in servers]))

    def test_a_server_left_out(self):
        for size in (1, 2, 40, 997, 10 ** 9):
            for servers in HALLS:
                marks = marks_of(servers, size)
                spots = telling_spots(marks)[::5] + [10 ** 9]
                for gone, weight in servers:
                    rest = marks_of(without(servers, gone), size)
                    for spot in spots:
                        row = [name for name in row_from(marks, spot) if name != gone]
                        self.assertEqual(row_from(rest, spot), row)

    def test_what_is_handed_in_stays_and_what_is_told_is_new(self):
        for servers in HALLS:
            marks = marks_of(servers, 100)
            kept = copy.deepcopy(marks)
            told = row_from(marks, 50)
            same = list(told)
            self.assertIs(type(told), list)
            self.assertEqual(marks, kept)
            told.append("x")
            self.assertEqual(marks, kept)
            self.assertEqual(row_from(marks, 50), same)


class LengthsTest(unittest.TestCase):
    def test_no_marks(self):
        for size in SIZES:
            self.assertEqual(lengths([], size), {})

    def test_one_name_has_it_all(self):
        for size in SIZES:
            for weight in (1, 20):
                self.assertEqual(lengths(marks_of([("a", weight)], size), size), {"a": size})

    def test_known_lengths(self):
        marks = [(10, "b"), (20, "a"), (30, "c")]
        self.assertEqual(lengths(marks, 31), {"b": 11, "a": 10, "c": 10})
        self.assertEqual(lengths(marks, 100), {"b": 80, "a": 10, "c": 10})
        self.assertEqual(lengths(marks, 10 ** 9), {"b": 10 ** 9 - 20, "a": 10, "c": 10})
        self.assertEqual(lengths([(0, "a"), (1, "b")], 2), {"a": 1, "b": 1})
        self.assertEqual(lengths([(3, "a"), (7, "b"), (9, "a")], 10), {"a": 6, "b": 4})

    def test_names_without_a_spot(self):
        self.assertEqual(lengths([(0, "a"), (0, "b"), (0, "b")], 1), {"a": 1, "b": 0})
        self.assertEqual(lengths([(4, "a"), (4, "b"), (6, "c"), (6, "d")], 10), {"a": 8, "b": 0, "c": 2, "d": 0})
        self.assertEqual(lengths([(5, "a"), (5, "b"), (7, "b")], 10), {"a": 8, "b": 2})

    def test_every_spot_of_small_rings(self):
        for size in itertools.chain(range(1, 45), (97, 100, 997)):
            for servers in HALLS:
                marks = marks_of(servers, size)
                counted = {name: 0 for name, weight in servers}
                if servers:
                    for spot in range(size):
                        counted[row_from(marks, spot)[0]] += 1
                with self.subTest(size=size, servers=servers):
                    self.assertEqual(lengths(marks, size), counted)

    def test_they_come_to_the_size(self):
        for size in SIZES + (10 ** 9 - 1, 2 ** 29):
            for servers in HALLS[1:]:
                found = lengths(marks_of(servers, size), size)
                self.assertEqual(sum(found.values()), size)
                self.assertEqual(sorted(found), sorted([name for name, weight in servers]))
                self.assertTrue(all([length >= 0 for length in found.values()]))

    def test_a_great_ring_from_mark_to_mark(self):
        # On each stretch between neighbouring marks' spots the row begins alike.
        size = 10 ** 9
        for servers in HALLS[1:]:
            marks = marks_of(servers, size)
            spots = sorted({spot for spot, name in marks})
            counted = {name: 0 for name, weight in servers}
            begin = 0
            for spot in spots + [size - 1]:
                if spot >= begin:
                    counted[row_from(marks, spot)[0]] += spot - begin + 1
                    begin = spot + 1
            self.assertEqual(lengths(marks, size), counted)

    def test_what_is_handed_in_stays_and_what_is_told_is_new(self):
        for servers in HALLS:
            marks = marks_of(servers, 100)
            kept = copy.deepcopy(marks)
            told = lengths(marks, 100)
            same = dict(told)
            self.assertIs(type(told), dict)
            self.assertTrue(all([type(length) is int for length in told.values()]))
            self.assertEqual(marks, kept)
            told["x"] = 7
            self.assertEqual(marks, kept)
            self.assertEqual(lengths(marks, 100), same)


if __name__ == "__main__":
    unittest.main()

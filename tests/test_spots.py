import unittest

from usher.spots import spot_of

TURNS = (0, 1, 19, 999)
SIZES = (1, 2, 100, 10 ** 9)

# For each name the number h behind the document's last step but one, for each of
# TURNS; reckoned step by step with bc, so apart from the program and from Python.
LAST_H = {
    "a": (1213239915, 278947912, 641561034, 2010915363),
    "z": (1214446690, 280154687, 642767809, 2012122138),
    "a0": (3138081, 939264848, 609677478, 1038391869),
    "b7c": (271683807, 372126311, 32607736, 1829497541),
    "z9y8": (772372596, 1473188948, 1202981402, 808239322),
    "abcde": (679937756, 1386720508, 1223908162, 233787141),
    "s0s0s0": (463999678, 2093172959, 1353520959, 215502971),
    "server1": (1699355795, 581085050, 1927048110, 1238377980),
    "z9999999": (2072708001, 1817308694, 1515088462, 331870654),
    "zzzzzzzz": (746499819, 491100512, 188880280, 1153146119),
    "a1b2c3d4": (435567265, 180167958, 2025431373, 842213565),
}


def reckoned(name, turn, size):
    # The document's steps as one sum of powers: the rest is taken once for all signs.
    signs = "abcdefghijklmnopqrstuvwxyz0123456789"
    total = (turn + 1) * 69621 ** len(name)
    for behind, sign in enumerate(reversed(name)):
        total += (signs.index(sign) + 1) * 69621 ** behind
    return total * 48271 % 2147483647 % size


class SpotsTest(unittest.TestCase):
    def test_example_of_the_document(self):
        self.assertEqual(spot_of("a", 0, 100), 15)
        self.assertEqual(spot_of("a", 0, 10 ** 9), 213239915)

    def test_spots_by_the_steps(self):
        for name, numbers in LAST_H.items():
            for turn, h in zip(TURNS, numbers):
                for size in SIZES:
                    with self.subTest(name=name, turn=turn, size=size):
                        self.assertEqual(spot_of(name, turn, size), h % size)

    def test_every_sign_in_every_place(self):
        for sign in "abcdefghijklmnopqrstuvwxyz0123456789":
            for place in range(1, 8):
                name = "k" * place + sign + "7" * (7 - place)
                for turn in TURNS:
                    with self.subTest(name=name, turn=turn):
                        self.assertEqual(spot_of(name, turn, 10 ** 9), reckoned(name, turn, 10 ** 9))

    def test_every_first_letter(self):
        for letter in "abcdefghijklmnopqrstuvwxyz":
            for name in (letter, letter + "0", letter + "bc4e6g8"):
                for size in SIZES:
                    with self.subTest(name=name, size=size):
                        self.assertEqual(spot_of(name, 0, size), reckoned(name, 0, size))

    def test_every_turn(self):
        for turn in range(1000):
            for size in (97, 10 ** 9):
                with self.subTest(turn=turn, size=size):
                    self.assertEqual(spot_of("web1", turn, size), reckoned("web1", turn, size))

    def test_a_spot_is_a_whole_number_on_the_ring(self):
        for name in LAST_H:
            for turn in TURNS:
                for size in SIZES:
                    spot = spot_of(name, turn, size)
                    self.assertIs(type(spot), int)
                    self.assertTrue(0 <= spot < size)

    def test_a_ring_of_one_spot(self):
        for name in LAST_H:
            self.assertEqual(spot_of(name, 0, 1), 0)

    def test_asked_again_it_is_the_same(self):
        first = spot_of("web1", 3, 10 ** 9)
        spot_of("web2", 4, 10 ** 9)
        self.assertEqual(spot_of("web1", 3, 10 ** 9), first)


if __name__ == "__main__":
    unittest.main()

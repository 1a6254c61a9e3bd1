import itertools
import unittest

from odd_values import ODD, with_changes

from tidewarden.boxes import check_digit, distance_of, is_box, is_code, is_distances

CODE = "CSQU3054383"
BOX = (CODE, 20, "d3", 4)
TABLE = (("d1", "d1", 2), ("d1", "d3", 5), ("d2", "d9", 1))


def plain_values():
    values = {str(digit): digit for digit in range(10)}
    numbers = [n for n in range(10, 39) if n % 11 != 0]
    values.update(zip("ABCDEFGHIJKLMNOPQRSTUVWXYZ", numbers))
    return values


VALUES = plain_values()


def plain_digit(text):
    total = sum(VALUES[sign] * 2 ** place for place, sign in enumerate(text))
    return int(str(total % 11)[-1])


class CodeTest(unittest.TestCase):
    def test_values_of_the_document(self):
        self.assertEqual((VALUES["A"], VALUES["B"], VALUES["L"], VALUES["Z"]), (10, 12, 23, 38))

    def test_check_digit(self):
        self.assertEqual(check_digit("CSQU305438"), 3)
        for letter in "ABCDEFGHIJKLMNOPQRSTUVWXYZ":
            for place in range(4):
                text = "AAAA"[:place] + letter + "AAAA"[place + 1:] + "000000"
                self.assertEqual(check_digit(text), plain_digit(text))
        for number in range(0, 1000000, 997):
            text = f"MSKU{number:06d}"
            self.assertEqual(check_digit(text), plain_digit(text))

    def test_remainder_of_ten(self):
        found = 0
        for number in range(100):
            text = f"ABCD{number:06d}"
            if sum(VALUES[sign] * 2 ** place for place, sign in enumerate(text)) % 11 == 10:
                found += 1
                self.assertEqual(check_digit(text), 0)
                self.assertIs(is_code(text + "0"), True)
        self.assertGreater(found, 3)

    def test_is_code_with_each_check_digit(self):
        for text in ["CSQU305438", "ABCD000000", "ZZZZ999999", "AZLK123456"]:
            taken = [digit for digit in "0123456789" if is_code(text + digit)]
            self.assertEqual(taken, [str(plain_digit(text))])

    def test_no_codes(self):
        for value in [
                "", "CSQU305438", "CSQU30543833", "csqu3054383", "cSQU3054383", "CSQ13054383", "CSQUA054383",
                " CSQU3054383", "CSQU3054383 ", "CSQU305438 ", "CSQU30543 3", "CSQU305438A", "CSQU3054382",
                "CSQU-054383", "CSQU\n054383", "\u00c4SQU3054383", "CSQU305438\u0663", "CSQU30543\u00b23",
                "CSQU305438\uff13", CODE.encode(), [CODE], (CODE,), list(CODE), tuple(CODE), 3054383]:
            self.assertIs(is_code(value), False, value)

    def test_any_value(self):
        for value in ODD:
            self.assertIs(is_code(value), False)


class BoxTest(unittest.TestCase):
    def test_bounds(self):
        kinds = ["plain", "cold"] + [f"d{k}" for k in range(1, 10)]
        for weight, kind, port in itertools.product((1, 2, 39, 40), kinds, (1, 5, 9)):
            self.assertIs(is_box((CODE, weight, kind, port)), True)
        for weight in (0, -1, 41, 400, True, 1.0, "1", None):
            self.assertIs(is_box((CODE, weight, "plain", 1)), False)
        for port in (0, -1, 10, True, False, 1.0, "1", None):
            self.assertIs(is_box((CODE, 1, "plain", port)), False)
        for kind in ("", "d0", "d10", "d", "D1", "Plain", "warm", "plain ", "d1d2", 1, None, True, ["d1"], ("d1",)):
            self.assertIs(is_box((CODE, 1, kind, 1)), False)
        for code in ("CSQU3054384", "CSQU305438", "", None, 1, [CODE]):
            self.assertIs(is_box((code, 1, "plain", 1)), False)

    def test_forms(self):
        self.assertIs(is_box(BOX), True)
        for value in [list(BOX), BOX[:3], BOX + (1,), (BOX,), ()]:
            self.assertIs(is_box(value), False)
        for value in ODD:
            self.assertIs(is_box(value), False)
            self.assertIs(is_box((CODE, 1, "plain", value)), False)
            self.assertIs(is_box((value, 1, "plain", 1)), False)
            self.assertIs(is_box((CODE, 1, value, 1)), False)
        for value in with_changes(BOX, (None, True, "a", -1, 1.0, (), [])):
            self.assertIs(is_box(value), False)


class DistancesTest(unittest.TestCase):
    def test_tables(self):
        for value in [(), TABLE, (("d1", "d9", 1), ("d9", "d9", 5)), (("d5", "d5", 3),)]:
            self.assertIs(is_distances(value), True, value)

    def test_no_tables(self):
        for value in [
                (("d2", "d1", 1),), (("d1", "d2", 1), ("d1", "d2", 2)), (("d1", "d2", 1), ("d1", "d2", 1)),
                (("d1", "d3", 1), ("d1", "d2", 1)), (("d2", "d2", 1), ("d1", "d3", 1)), (("plain", "plain", 1),),
                (("cold", "d1", 1),), (("d1", "plain", 1),), (("d0", "d1", 1),), (("d1", "d10", 1),),
                (("d1", "d2", 0),), (("d1", "d2", 6),), (("d1", "d2", -1),), (("d1", "d2", True),),
                (("d1", "d2", 1.0),), [("d1", "d2", 1)], (["d1", "d2", 1],), (("d1", "d2"),),
                (("d1", "d2", 1, 1),), ("d1", "d2", 1), ((None, "d2", 1),), ((1, 2, 1),)]:
            self.assertIs(is_distances(value), False, value)

    def test_any_value(self):
        for value in ODD:
            self.assertIs(is_distances(value), False)
            self.assertIs(is_distances((value,)), False)
            self.assertIs(is_distances((("d1", value, 1),)), False)
        for value in with_changes(TABLE, (None, True, "a", -1, 1.0, (), [])):
            # Texts are compared, since 2.0 equals 2.
            kept = type(value) is tuple and all(str(row) in str(TABLE) for row in value)
            self.assertIs(is_distances(value), kept, value)

    def test_distance_of(self):
        kinds = ["plain", "cold"] + [f"d{k}" for k in range(1, 10)]
        told = {("d1", "d1"): 2, ("d1", "d3"): 5, ("d3", "d1"): 5, ("d2", "d9"): 1, ("d9", "d2"): 1}
        for one, two in itertools.product(kinds, repeat=2):
            self.assertEqual(distance_of(TABLE, one, two), told.get((one, two), 0))
            self.assertEqual(distance_of((), one, two), 0)


if __name__ == "__main__":
    unittest.main()

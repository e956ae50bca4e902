"""orderforms.order: point 1.5, the text of an order."""

import re
import unittest

from helper import VALUES, check_error, check_steady, check_truth, closure, greater_orders, relation, small_orders
from orderforms.errors import NoText, Refused
from orderforms.order import Order, read_order

ORDERS = small_orders(4) + greater_orders()


def covers_of(pairs):
    return sorted((x, y) for x, y in pairs if not any((x, z) in pairs and (z, y) in pairs for z in range(10)))


def is_text(text):
    """Tell if the string is the text of an order, by its form and the covers of its pairs."""
    if re.fullmatch("([0-9]|10):( [0-9]<[0-9])*", text) is None:
        return False
    pairs = [(int(x), int(y)) for x, y in re.findall("([0-9])<([0-9])", text)]
    whole = closure(pairs)
    if any(x == y for x, y in whole) or any(max(pair) >= int(text.split(":")[0]) for pair in pairs):
        return False
    return pairs == covers_of(whole)


def changed(text):
    """Generate the strings that differ from a text in one character, or have one more or one less."""
    signs = "0123489 :<>+-\n\tax,."
    for at in range(len(text) + 1):
        yield text[:at] + text[at + 1:]
        for sign in signs:
            yield text[:at] + sign + text[at:]
            yield text[:at] + sign + text[at + 1:]


class TextTest(unittest.TestCase):
    def test_told_examples(self):
        self.assertEqual(str(Order(4, ((0, 1), (1, 3), (0, 3)))), "4: 0<1 1<3")
        self.assertEqual(str(Order(0, ())), "0:")
        self.assertEqual(str(Order(1, ())), "1:")
        self.assertEqual(str(Order(10, ())), "10:")
        self.assertEqual(str(Order(3, ((2, 1), (1, 0)))), "3: 1<0 2<1")

    def test_text_of_each_order(self):
        for order in ORDERS:
            covers = covers_of(relation(order))
            wanted = f"{order.n}:" + "".join(f" {x}<{y}" for x, y in covers)
            self.assertEqual(check_steady(self, str, order), wanted)

    def test_ring_is_refused(self):
        check_error(self, Refused, Order, 2, ((0, 1), (1, 0)), reason="cycle")


class ReadTest(unittest.TestCase):
    def check_none(self, text):
        check_error(self, NoText, read_order, text, at=0)

    def test_reading_gives_the_order_back(self):
        for order in ORDERS:
            told = check_steady(self, read_order, str(order))
            self.assertIsInstance(told, Order)
            self.assertEqual((told.n, told.above), (order.n, order.above))
            check_truth(self, True, told == order)

    def test_values_that_are_no_strings(self):
        for value in VALUES:
            if not isinstance(value, str) or not is_text(value):
                self.check_none(value)
        self.check_none(["0:"])
        self.check_none(("4: 0<1 1<3",))

    def test_other_spaces(self):
        for text in (" 0:", "0: ", "0 :", "4:0<1 1<3", "4:  0<1 1<3", "4: 0<1  1<3", "4: 0<1 1<3 ", " 4: 0<1 1<3",
                     "4: 0 <1 1<3", "4: 0< 1 1<3", "4: 0<11<3", "4:\t0<1 1<3", "4:\n0<1", "4: 0<1\t1<3"):
            self.check_none(text)

    def test_other_pairs(self):
        for text in ("4: 1<3 0<1", "4: 0<1 0<3 1<3", "4: 0<1 0<1", "4: 0<1 1<3 1<3", "4: 0<1 1<3 0<3",
                     "4: 0<0", "2: 0<1 1<0", "3: 0<1 1<2 2<0", "4: 0<4", "4: 4<0", "0: 0<1", "1: 0<1",
                     "3: 0<2 0<1", "3: 0<1,1<2", "3: 0<1<2", "3: 0>1", "3: 0<=1", "3: 0,1", "3: <", "3: 0<", "3: <1"):
            self.check_none(text)

    def test_other_digits_and_signs(self):
        for text in ("04: 0<1", "00:", "010:", "4: 00<1", "4: 0<01", "+4:", "-4:", "-0:", "4: +0<1", "4: 0<+1",
                     "4: -1<1", "a:", "4: a<b", "4: 0<b", "4: a<1", "x", "4: x", "\u0664:", "4: \u0660<\u0661",
                     "\u00b2:", "4: 0<\u00b9"):
            self.check_none(text)

    def test_more_than_ten_points(self):
        self.assertEqual(read_order("10: 0<9").above, (512,) + (0,) * 9)
        for text in ("11:", "12: 0<1", "11: 0<10", "10: 0<10", "10: 9<10", "64:", "100:", "99999999999:"):
            self.check_none(text)

    def test_other_forms(self):
        for text in ("", ":", " ", "4", "4:,", "0::", "4: 0<1:", "\n", "0:\n", "4: 0<1 1<3\n", "\n0:", "0:\r",
                     "(4: 0<1)", "4; 0<1", "None", "4: 0<1 1<3 #"):
            self.check_none(text)

    def test_texts_that_differ_in_one_character(self):
        for order in small_orders(3) + greater_orders()[:2] + [Order(10, ((0, 9), (8, 9)))]:
            for text in changed(str(order)):
                if is_text(text):
                    self.assertEqual(str(read_order(text)), text)
                else:
                    self.check_none(text)


if __name__ == "__main__":
    unittest.main()

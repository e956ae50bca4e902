"""orderforms.sheet: point 9.1, and what point 9.2 says of reading."""

import itertools
import unittest

from helper import VALUES, check_error, check_names, check_steady, frozen
from orderforms.errors import NoText
from orderforms.order import Order
from orderforms.sheet import read_line

VEE = Order(3, ((0, 1), (0, 2)))

# For each first word but `let` what follows it: names and numbers.
ROWS = {
    "chain": "AN", "antichain": "AN", "parallel": "AAA", "ordinal": "AAA", "product": "AAA", "common": "AAA",
    "turned": "AA", "show": "A", "form": "A", "width": "A", "length": "A", "dimension": "A", "alike": "AA",
    "linear": "A", "group": "A", "moebius": "ANN",
}

RIGHT_NAMES = ("a", "z", "abcdefgh", "let", "chain", "empty", "width")
WRONG_NAMES = ("abcdefghi", "A", "aB", "a1", "1", "0", "a_b", "a-b", "a.", "=", "#", "a=", "~", "\"a\"", "{")
RIGHT_NUMBERS = ("0", "1", "9", "10", "11", "42", "99")
WRONG_NUMBERS = ("100", "00", "01", "09", "-1", "-0", "+1", "1.", "1.0", "0x1", "1e1", "1_0", "a", "=", "999999999999",
    "-")


def parts_of(kinds):
    """Return right words for the kinds, with what they stand for."""
    words = [("b", "c", "abcdefgh")[k] if kind == "A" else ("0", "10", "99")[k] for k, kind in enumerate(kinds)]
    return words, [int(word) if kind == "N" else word for word, kind in zip(words, kinds)]


class RightLinesTest(unittest.TestCase):
    def check_read(self, line, wanted):
        told = check_steady(self, read_line, line)
        self.assertEqual(frozen(told), frozen(wanted), line)

    def test_names(self):
        check_names(self, "sheet", {"read_line": "(line)"})

    def test_each_row_of_the_table(self):
        for word, kinds in ROWS.items():
            words, parts = parts_of(kinds)
            wanted = (word, *parts)
            for line in (
                " ".join([word] + words), "  ".join([word] + words), " " + " ".join([word] + words) + "   ",
                "     ".join([" " + word] + words) + " ",
            ):
                self.check_read(line, wanted)

    def test_told_lines(self):
        for line, wanted in (
            ("chain a 0", ("chain", "a", 0)), ("antichain abc 99", ("antichain", "abc", 99)),
            ("parallel a b c", ("parallel", "a", "b", "c")), ("ordinal a a a", ("ordinal", "a", "a", "a")),
            ("product x y x", ("product", "x", "y", "x")), ("common c d e", ("common", "c", "d", "e")),
            ("turned a b", ("turned", "a", "b")), ("show a", ("show", "a")), ("form a", ("form", "a")),
            ("width a", ("width", "a")), ("length a", ("length", "a")), ("dimension a", ("dimension", "a")),
            ("alike a b", ("alike", "a", "b")), ("linear a", ("linear", "a")), ("group a", ("group", "a")),
            ("moebius a 0 12", ("moebius", "a", 0, 12)), ("  show   show  ", ("show", "show")),
            ("let a = 3: 0<1 0<2", ("let", "a", VEE)),
        ):
            self.check_read(line, wanted)

    def test_names_and_numbers(self):
        for name in RIGHT_NAMES:
            self.check_read(f"show {name}", ("show", name))
            self.check_read(f"alike a {name}", ("alike", "a", name))
            self.check_read(f"let {name} = 0:", ("let", name, Order(0, ())))
        for number in RIGHT_NUMBERS:
            self.check_read(f"chain a {number}", ("chain", "a", int(number)))
            self.check_read(f"moebius a {number} 0", ("moebius", "a", int(number), 0))
            self.check_read(f"moebius a 1 {number}", ("moebius", "a", 1, int(number)))
        for k in range(100):
            self.check_read(f"antichain b {k}", ("antichain", "b", k))

    def test_let(self):
        for line in (
            "let a = 3: 0<1 0<2", "  let   a   =   3: 0<1 0<2   ", "let a = 3: 0<1 0<2 ", " let a =      3: 0<1 0<2",
        ):
            self.check_read(line, ("let", "a", VEE))
        self.check_read("let let = 1:", ("let", "let", Order(1, ())))
        self.check_read("let abcdefgh = 10:", ("let", "abcdefgh", Order(10, ())))
        self.check_read("let a = 10: 0<9", ("let", "a", Order(10, ((0, 9),))))

    def test_lines_with_nothing(self):
        for line in ("", " ", "   ", " " * 2000, "#", "# let a = 1:", "#~!x", "# ", "##", "#show a", "#" + "x" * 1999):
            self.check_read(line, ("empty",))

    def test_long_lines(self):
        for size in (1999, 2000):
            self.check_read("show" + " " * (size - 5) + "a", ("show", "a"))
            self.check_read("let a =" + " " * (size - 9) + "1:", ("let", "a", Order(1, ())))


class WrongLinesTest(unittest.TestCase):
    def check_wrong(self, *values):
        for value in values:
            check_error(self, NoText, read_line, value, at=0)

    def test_wrong_names_and_numbers(self):
        for word, kinds in ROWS.items():
            words, parts = parts_of(kinds)
            for k, kind in enumerate(kinds):
                wrong = WRONG_NAMES if kind == "A" else WRONG_NUMBERS
                self.check_wrong(*[" ".join([word] + words[:k] + [other] + words[k + 1:]) for other in wrong])

    def test_wrong_numbers_of_words(self):
        for word, kinds in ROWS.items():
            words, parts = parts_of(kinds)
            for size in range(len(words)):
                self.check_wrong(" ".join([word] + words[:size]))
            for more in ("a", "0", "=", "#", "# more"):
                self.check_wrong(" ".join([word] + words + [more]))

    def test_wrong_first_words(self):
        for word in ("Show", "SHOW", "shows", "sho", "draw", "empty", "name", "number", "=", "~", "0", "\"show\"", "+"):
            self.check_wrong(word, f"{word} a", f"{word} a b", f"{word} a b c", f"{word} a 1", f"{word} a = 1:")

    def test_wrong_let_lines(self):
        self.check_wrong(
            "let", "let a", "let a =", "let a =  ", "let = 1:", "let a 1:", "let a= 1:", "let a =1:", "let a=1:",
            "leta = 1:",
            "let a : 1:", "let a == 1:", "let a = = 1:", "let a b = 1:", "let A = 1:", "let abcdefghi = 1:",
            "let a1 = 1:",
            "let 1 = 1:", "Let a = 1:", "let a = 1", "let a = 11:", "let a = 3:0<1", "let a = 3:  0<1",
            "let a = 3: 0<1  0<2",
            "let a = 3: 0<2 0<1", "let a = 3: 0<1 1<2 0<2", "let a = 2: 0<1 1<0", "let a = 2: 0<2", "let a = 1: # more",
            "let a = 01:", "let a = b", "let a = 3 :", "let a = \"1:\"", "let a = 1: x", "let # = 1:",
        )

    def test_signs(self):
        for code in itertools.chain(range(32), (37, 127, 128, 160, 255, 0x100, 0x2028, 0xFEFF, 0x1F600)):
            sign = chr(code)
            self.check_wrong(sign, "#" + sign, "# x" + sign + "y", "show a" + sign, sign + "show a",
                "show" + sign + "a", " " + sign)
        self.check_wrong("show\ta", "show a\n", "# 5 \x25", "show \u0430", "show \u00e4", "chain a \u0661",
            "chain a \u00b2", "# \udc80")
        for code in range(32, 127):
            if code != 37:
                self.assertEqual(read_line("#" + chr(code)), ("empty",))

    def test_comments_stand_at_the_first_place(self):
        self.check_wrong(" # x", " #", "show a # x", "  ## a")

    def test_long_lines(self):
        self.check_wrong(
            " " * 2001, "#" + "x" * 2000, "show" + " " * 1996 + "a", "let a =" + " " * 1992 + "1:", "a" * 2001,
            "a" * 2000,
        )

    def test_every_value(self):
        for value in VALUES + (["show a"], ("show", "a"), b"show a", {"show": "a"}, [], ["show", "a"]):
            if value != "":
                self.check_wrong(value)


if __name__ == "__main__":
    unittest.main()

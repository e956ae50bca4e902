"""orderforms.log: point 9.6, and the right lists of entries of point 9.5."""

import unittest

from helper import VALUES, check_error, check_names, check_steady, frozen, greater_orders
from orderforms.build import antichain, chain
from orderforms.errors import Malformed, NoText
from orderforms.log import first_wrong, read_data, read_log, write_log, written
from orderforms.order import Order
from orderforms.papers import dimension_paper, length_paper, pair_paper, width_paper
from orderforms.replies import Reply, reply_to

VEE = Order(3, ((0, 1), (0, 2)))

DIGITS_5000 = "7" + "0123456789" * 500

# Plain data with their written forms.
FORMS = (
    (0, "0"), (1, "1"), (-1, "-1"), (9, "9"), (10, "10"), (-10, "-10"), (1234567890, "1234567890"),
    (2**64, "18446744073709551616"), (-(2**64), "-18446744073709551616"), ("a", "a"), ("z", "z"), ("none", "none"),
    ("abcdefghijkl", "abcdefghijkl"), ("true", "true"), ((), "()"), (((),), "(())"), ((0,), "(0)"), ((0, 1), "(0 1)"),
    (("a",), "(a)"), ((-1, "b", ()), "(-1 b ())"), (((1, 2), (3,), ()), "((1 2) (3) ())"),
    (("map", (0, 1)), "(map (0 1))"),
    (((), ()), "(() ())"), ((((), 5), "x"), "((() 5) x)"),
)
NO_DATA = (
    True, False, None, "", "A", "a b", "a1", "1", "-1", "()", "abcdefghijklm", "a\n", " a", "a-b", "\u00e4", "a_b", [],
    [0], [()],
    (True,), (None,), ("",), ("A",), ([],), (0, [1]), ((0, (False,)),), ("a", "1"), {}, ({},), VEE, (VEE,),
    Reply("done"),
    (Reply("done"),), ("abcdefghijklm",), b"a", (b"a",), 1.0, (1.5,),
)
NO_FORMS = (
    "", " ", "00", "01", "-0", "-00", "-01", "--1", "-", "+1", "1.", "1.0", "0x1", "1_0", "1e5", " 1", "1 ", "1 2",
    "a b", "A", "aB",
    "a1", "1a", "abcdefghijklm", "a.", "(", ")", "(()", "())", ")(", "()()", "() ()", "( )", "( 1)", "(1 )", "(1  2)",
    "(  )", "(1 2",
    "1 2)", "(1 2))", "((1 2)", "(1(2))", "((1)2)", "((1)(2))", "(1,2)", "(1\t2)", "(1\n2)", "()\n", "\n()", "(A)",
    "(01)", "(-0)",
    "(1 2 )", "[1 2]", "\"a\"", "'a'", "None", "True", "(True)", "- 1", "-a", "a-", "a(", "(a", "(a))", "\u0661",
    "\u00b2", "\uff11",
    "(1\u00a02)", "\u00e4", "1\u0661",
)


def nested(deep):
    """Return the empty tuple within so many tuples less one, and its written form."""
    data = ()
    for _ in range(deep - 1):
        data = (data,)
    return data, "(" * deep + ")" * deep


class NamesTest(unittest.TestCase):
    def test_names(self):
        check_names(self, "log", {
            "written": "(data)", "read_data": "(text)", "write_log": "(entries)", "read_log": "(text)",
            "first_wrong": "(entries)",
        })


class DataTest(unittest.TestCase):
    def check_both_ways(self, data, text):
        self.assertEqual(check_steady(self, written, data), text)
        self.assertEqual(frozen(check_steady(self, read_data, text)), frozen(data))

    def test_forms(self):
        for data, text in FORMS:
            self.check_both_ways(data, text)

    def test_papers(self):
        for order in greater_orders()[:3] + [Order(0, ()), VEE]:
            for paper in (width_paper(order), length_paper(order), pair_paper(order, order), pair_paper(order, VEE)):
                self.assertEqual(frozen(read_data(written(paper))), frozen(paper))
        self.assertEqual(written(dimension_paper(VEE)), "(dimension ((0 1 2) (0 2 1)))")

    def test_integers_of_any_size(self):
        for size in (1, 17, 18, 19, 63, 64, 65, 127, 128, 129, 639, 640, 641, 4299, 4300, 4301, 9999):
            self.check_both_ways(10**size, "1" + "0" * size)
            self.check_both_ways(-(10**size), "-1" + "0" * size)
            value = 0
            for sign in "3" * size:
                value = value * 10 + int(sign)
            self.check_both_ways(value, "3" * size)
            self.check_both_ways((value, -value), "(" + "3" * size + " -" + "3" * size + ")")
        value = 7 * 10**5000 + 123456789 * sum(10 ** (10 * k) for k in range(500))
        self.check_both_ways(value, DIGITS_5000)
        self.check_both_ways(-value, "-" + DIGITS_5000)
        for text in ("0" + DIGITS_5000, "-0" + DIGITS_5000, DIGITS_5000 + "a",
            DIGITS_5000[:2500] + " " + DIGITS_5000[2500:], "0" * 5000):
            check_error(self, NoText, read_data, text, at=0)

    def test_words(self):
        for size in range(1, 13):
            self.check_both_ways("q" * size, "q" * size)
        for size in (13, 14, 100):
            check_error(self, Malformed, written, "q" * size)
            check_error(self, NoText, read_data, "q" * size, at=0)
            check_error(self, NoText, read_data, "(" + "q" * size + ")", at=0)

    def test_depth(self):
        for deep in (1, 2, 19, 20):
            self.check_both_ways(*nested(deep))
        for deep in (21, 22, 100, 5000):
            data, text = nested(deep)
            with self.assertRaises(Malformed):
                written(data)
            check_error(self, NoText, read_data, text, at=0)
        for inner in (5, "a"):
            data = inner
            for _ in range(20):
                data = (1, data)
            self.check_both_ways(data, "(1 " * 20 + str(inner) + ")" * 20)
            check_error(self, Malformed, written, (data,))
            check_error(self, NoText, read_data, f"({'(1 ' * 20}{inner}{')' * 20})", at=0)

    def test_other_values_have_no_written_form(self):
        for data in NO_DATA:
            check_error(self, Malformed, written, data)

    def test_other_texts_are_no_written_form(self):
        for text in NO_FORMS:
            check_error(self, NoText, read_data, text, at=0)
            check_error(self, NoText, read_data, f"(5 {text} a", at=0)
        for data, text in FORMS:
            for other in (text + " ", " " + text, text + ")", "(" + text, text + "\n", text + " " + text, text + "()",
                "()" + text):
                check_error(self, NoText, read_data, other, at=0)

    def test_every_value(self):
        wanted = {"a": "a", "0": 0, "1": 1}
        for value in VALUES + (["()"], ("()",), b"()", 5, [], (0, 1)):
            if type(value) is str and value in wanted:
                self.assertEqual(frozen(read_data(value)), frozen(wanted[value]))
            else:
                check_error(self, NoText, read_data, value, at=0)

    def test_each_change_of_one_sign_is_another_data_or_none(self):
        data = ("lower", 12, (0, -30, (), ("a", 5)))
        text = written(data)
        for at in range(len(text)):
            for sign in (" ", "(", ")", "0", "7", "-", "z", "A", ""):
                other = text[:at] + sign + text[at + 1:]
                if other != text:
                    try:
                        found = read_data(other)
                    except NoText as error:
                        self.assertEqual(error.at, 0)
                    else:
                        self.assertEqual(written(found), other)
                        self.assertNotEqual(frozen(found), frozen(data))


ENTRIES = [
    ("let a = 3: 0<1 0<2", Reply("order", "3: 0<1 0<2")), ("width a", Reply("number", "2", ("width", (1, 2), ((0, 1),
    (2,))))),
    ("", Reply("done")), ("x", Reply("error", "text")), ("show b", Reply("error", "refused name")),
]
TEXT = (
    "> let a = 3: 0<1 0<2\n= order 3: 0<1 0<2\n# ()\n> width a\n= number 2\n# (width (1 2) ((0 1) (2)))\n"
    "> \n= done \n# ()\n> x\n= error text\n# ()\n> show b\n= error refused name\n# ()\n"
)


class LogTest(unittest.TestCase):
    def check_both_ways(self, entries, text):
        self.assertEqual(check_steady(self, write_log, entries), text)
        told = check_steady(self, read_log, text)
        self.assertIs(type(told), list)
        self.assertEqual(frozen(told), frozen(entries))

    def test_told_log(self):
        self.check_both_ways(ENTRIES, TEXT)
        self.check_both_ways([], "")
        for k in range(len(ENTRIES)):
            self.check_both_ways(ENTRIES[:k], "".join(line + "\n" for line in TEXT.split("\n")[:3 * k]))

    def test_any_lines_kinds_texts_and_data(self):
        strings = ("", " ", "  a ", "> x", "= done ", "# ()", "()", "\r", "a\rb\x0b\x0c\x1c\x85\u2028\u2029", "\t",
            "\u00e4\U0001f600", "%", "x" * 3000)
        for line in strings:
            for text in strings:
                for kind in ("a", "number", "abcdefghijkl"):
                    for data in ((), (0, -5, "abcdefghijkl", (), ((1,),)), nested(20)[0]):
                        entries = [(line, Reply(kind, text, data))]
                        self.check_both_ways(entries, f"> {line}\n= {kind} {text}\n# {written(data)}\n")
        big = [("", Reply("number", "", (10**5000, -(10**5000))))]
        self.check_both_ways(big, "> \n= number \n# (1" + "0" * 5000 + " -1" + "0" * 5000 + ")\n")

    def test_wrong_items(self):
        done = Reply("done")
        for item in (
            ["", done], ("",), (), ("", done, 1), (done, ""), ("", "done"), ("", ("done", "", ())), ("", None),
            ("a\nb", done), ("\n", done),
            (5, done), (None, done), (True, done), (b"a", done), (("a",), done), (["a"], done), ("", Reply("")),
            ("", Reply("Done")),
            ("", Reply("abcdefghijklm")), ("", Reply("a b")), ("", Reply("a1")), ("", Reply("done\n")),
            ("", Reply(None)), ("", Reply(5)),
            ("", Reply(True)), ("", Reply(("done",))), ("", Reply("done", "a\nb")), ("", Reply("done", "\n")),
            ("", Reply("done", None)),
            ("", Reply("done", 5)), ("", Reply("done", ["x"])), ("", Reply("done", "", [])),
            ("", Reply("done", "", None)),
            ("", Reply("done", "", 5)), ("", Reply("done", "", "word")), ("", Reply("done", "", (True,))),
            ("", Reply("done", "", (None,))),
            ("", Reply("done", "", ([],))), ("", Reply("done", "", ("A",))), ("", Reply("done", "", ("a b",))),
            ("", Reply("done", "", ((("abcdefghijklm",),),))), ("", Reply("done", "", (VEE,))),
            ("", Reply("done", "", nested(21)[0])),
            ("", Reply("done", "", ("",))), None, 5, "", "ab", VEE, done, *VALUES,
        ):
            check_error(self, Malformed, write_log, [item])
            check_error(self, Malformed, write_log, ENTRIES + [item])
            check_error(self, Malformed, write_log, [item] + ENTRIES)

    def test_a_line_that_is_spoilt(self):
        lines = TEXT.split("\n")[:-1]
        wrong = (
            ("", ">", " > x", "x", "= x", "# ()", ">x", "<", ">\tx", "\u00a0> x"),
            ("", "=", "= ", "=  ", "= done", "=done ", " = done ", "= Done ", "= abcdefghijklm ", "= a1 x", "= 5 x",
            "> x", "# ()", "=  x", "- done "),
            (
                "", "#", "# ", "#()", "# (", "# )", "# ( )", "# () ", "#  ()", "# (1  2)", "# (01)", "# (-0)", "# 5",
                "# word", "# -5",
                "# " + nested(21)[1], "# (A)", "# ()x", "> x", "= done ", "# (abcdefghijklm)", "# () ()", "()",
                "# None", "# (True)",
            ),
        )
        for at in range(len(lines)):
            for other in wrong[at % 3]:
                spoilt = lines[:at] + [other] + lines[at + 1:]
                check_error(self, NoText, read_log, "".join(line + "\n" for line in spoilt), at=at)
                # The first one of several is told, and nothing behind it matters.
                spoilt = lines[:at] + [other, "spoilt"] + lines[at + 2:]
                check_error(self, NoText, read_log, "".join(line + "\n" for line in spoilt), at=at)
                check_error(self, NoText, read_log, "\n".join(lines[:at] + [other, "> x"]), at=at)
            # A line that is left out spoils the next one, or ends the text within an entry.
            shorter = lines[:at] + lines[at + 1:]
            check_error(self, NoText, read_log, "".join(line + "\n" for line in shorter), at=at)

    def test_a_text_that_ends_too_early(self):
        for size in range(1, len(TEXT)):
            text = TEXT[:size]
            many = text.count("\n")
            if text.endswith("\n") and many % 3 == 0:
                self.assertEqual(frozen(read_log(text)), frozen(ENTRIES[:many // 3]))
            else:
                check_error(self, NoText, read_log, text, at=many)

    def test_told_ends(self):
        for text, at in (
            ("\n", 0), ("x", 0), (">", 0), ("> x", 0), ("> x\n", 1), ("> x\n= done ", 1), ("> x\n= done \n", 2),
            ("> x\n= done \n# ()", 2),
            ("> x\n= done \n# ()\n\n", 3), ("> x\n= done \n# ()\n>", 3), ("> x\n= done \n# ()\n> y", 3),
            ("> x\n= done \n# ()\n> y\n", 4),
            ("\n> x\n= done \n# ()\n", 0), ("> x\r\n= done\r\n# ()\r\n", 1), ("> x\n= done \n# ()\r\n", 2), (" ", 0),
            ("()", 0),
        ):
            check_error(self, NoText, read_log, text, at=at)

    def test_every_value(self):
        for value in VALUES + (b"", [TEXT], (TEXT,), b"> x\n= done \n# ()\n"):
            if type(value) is str and value == "":
                self.assertEqual(read_log(value), [])
            else:
                check_error(self, NoText, read_log, value, at=0)

    def test_data_come_back_of_the_same_kinds(self):
        for data in ((0,), (1,), ("a", 1, (0, ())), (-1, "true")):
            told = read_log(write_log([("", Reply("done", "", data))]))[0][1].data
            self.assertEqual(frozen(told), frozen(data))


class FirstWrongTest(unittest.TestCase):
    def made(self, *lines):
        """Return the entries of these lines, with the replies that point 9.3 tells."""
        names, entries = {}, []
        for line in lines:
            entries.append((line, reply_to(names, line)))
            words = line.split()
            if words[:1] == ["let"] and entries[-1][1].kind == "order":
                names[words[1]] = Order(int(words[3][:-1]), [(int(pair[0]), int(pair[2])) for pair in words[4:]])
        return entries

    def test_right_entries(self):
        self.assertEqual(first_wrong([]), -1)
        self.assertEqual(check_steady(self, first_wrong, ENTRIES), -1)
        entries = self.made(
            "let a = 3: 0<1 0<2", "width a", "let a = 2:", "width a", "show b", "let b = 2: 0<1", "alike a b", "",
            "# x", "x", "group b",
            "let b = 3: 0<1 x", "show b", "dimension b",
        )
        self.assertEqual(check_steady(self, first_wrong, entries), -1)
        # The same number at two places: other definitions hold there.
        self.assertEqual([entries[1][1].data[1], entries[3][1].data[1]], [(1, 2), (0, 1)])

    def test_the_first_of_several_wrong_ones(self):
        entries = self.made("let a = 3: 0<1 0<2", "width a", "length a", "show a", "linear a")
        wrong = ("show a", Reply("order", "3:"))
        for k in range(len(entries) + 1):
            self.assertEqual(check_steady(self, first_wrong, entries[:k] + [wrong] + entries[k:]), k)
            self.assertEqual(first_wrong(entries[:k] + [wrong] + entries[k:] + [wrong, None]), k)
            self.assertEqual(first_wrong(entries[:k] + [wrong, wrong]), k)
        for value in VALUES:
            self.assertEqual(first_wrong(entries + [value]), 5)
            self.assertEqual(first_wrong([value] + entries), 0)

    def test_definitions(self):
        entries = self.made("let a = 3: 0<1 0<2", "show a")
        self.assertEqual(first_wrong(entries[1:]), 0)
        self.assertEqual(first_wrong(entries[::-1]), 0)
        self.assertEqual(first_wrong([entries[0]] * 3 + [entries[1]] * 2), -1)
        # A reply that tells another order than its line defines is wrong itself; the line is what counts behind it.
        self.assertEqual(first_wrong([("let a = 3: 0<1 0<2", Reply("order", "3:")), ("show a", Reply("order", "3:"))]),
            0)
        self.assertEqual(first_wrong([entries[0], ("let a = 2:", Reply("error", "text")),
            ("show a", Reply("order", "2:"))]), 1)
        self.assertEqual(first_wrong([entries[0], ("let a = 3: x", Reply("error", "text")), entries[1]]), -1)
        self.assertEqual(first_wrong([entries[0], ("chain a 11", Reply("error", "refused large")), entries[1]]), -1)
        self.assertEqual(first_wrong([entries[0], ("chain a 3", Reply("order", str(chain(3)))), entries[1]]), 2)
        self.assertEqual(first_wrong([
            ("antichain a 2", Reply("order", "2:")), ("turned b a", Reply("order", "2:")),
            ("ordinal c a b", Reply("order", "4: 0<2 0<3 1<2 1<3")),
            ("group c", Reply("number", "4")), ("parallel a c c", Reply("order", "8: 0<2 0<3 1<2 1<3 4<6 4<7 5<6 5<7")),
            ("common a a a", Reply("order", "8: 0<2 0<3 1<2 1<3 4<6 4<7 5<6 5<7")),
            ("product d a a", Reply("error", "refused large")),
            ("show d", Reply("error", "refused name")), ("width a", Reply("number", "4", width_paper(Order(8, ())))),
        ]), 8)

    def test_other_right_papers(self):
        self.assertEqual(first_wrong([
            ("antichain a 3", Reply("order", "3:")), ("alike a a", Reply("alike", "yes", ("map", (2, 0, 1)))),
            ("dimension a", Reply("number", "2", ("dimension", ((2, 1, 0), (0, 1, 2))))),
            ("width a", Reply("number", "3", ("width", (0, 1, 2), ((2,), (0,), (1,))))),
        ]), -1)
        self.assertEqual(width_paper(antichain(3)), ("width", (0, 1, 2), ((0,), (1,), (2,))))


if __name__ == "__main__":
    unittest.main()

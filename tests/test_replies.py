"""orderforms.replies: points 9.2, 9.3 and 9.5."""

import itertools
import unittest

from helper import (
    VALUES, check_class, check_names, check_steady, check_truth, frozen, greater_orders, small_orders, twisted,
)
from orderforms.build import antichain, chain, common_part, ordinal, parallel, product
from orderforms.checker import takes_length, takes_width
from orderforms.dimension import dimension
from orderforms.forms import alike, form, group_order
from orderforms.incidence import moebius
from orderforms.linear import count_linear
from orderforms.order import Order, read_order
from orderforms.papers import dimension_paper, length_paper, pair_paper, width_paper
from orderforms.replies import Reply, defined, is_right, reply_to

VEE = Order(3, ((0, 1), (0, 2)))
CROWN = Order(6, ((0, 4), (0, 5), (1, 3), (1, 5), (2, 3), (2, 4)))
NAMES = {
    "empty": Order(0, ()), "one": Order(1, ()), "vee": VEE, "row": chain(3), "free": antichain(4), "crown": CROWN,
    "mixed": Order(4, ((3, 0), (3, 1), (2, 1))), "seven": chain(7), "ten": antichain(10), "big": greater_orders()[8],
    "turn": VEE.turned(), "wide": parallel(antichain(8), chain(2)), "four": chain(4),
}
TEXT = Reply("error", "text")
NO_NAME = Reply("error", "refused name")
LARGE = Reply("error", "refused large")
LINES = [
    "let a = 3: 0<1 0<2", "chain a 3", "antichain a 10", "parallel a vee row", "ordinal a vee row", "product a vee row",
    "common a vee row", "turned a vee", "show vee", "form crown", "width crown", "length crown", "dimension crown",
    "alike vee row", "alike vee turn", "alike crown crown", "alike vee four", "linear crown", "group crown",
    "moebius vee 0 1",
    "moebius vee 1 0", "", "# a", "x", "show zz", "width zz", "alike vee zz", "alike zz vee", "dimension seven",
    "alike ten wide",
    "moebius vee 3 0", "moebius zz 99 99", "product a crown crown", "chain a 11", "common a vee four", "width",
    "show vee vee",
]


class ReplyTest(unittest.TestCase):
    def test_names(self):
        check_class(self, "replies", "Reply", "(kind, text='', data=())", {
            "__init__": "(self, kind, text='', data=())", "__eq__": "(self, other)",
        })
        check_names(self, "replies", {
            "reply_to": "(names, line)", "defined": "(names, line)", "is_right": "(names, entry)",
        })

    def test_fields(self):
        for reply, wanted in (
            (Reply("done"), ("done", "", ())), (Reply("order", "0:"), ("order", "0:", ())),
            (Reply("number", "1", ("width", (0,))), ("number", "1", ("width", (0,)))),
            (Reply(data=(1,), kind="word", text="x"), ("word", "x", (1,))),
            (Reply("error", text="text"), ("error", "text", ())),
        ):
            self.assertEqual((reply.kind, reply.text, reply.data), wanted)

    def test_equality(self):
        one = Reply("number", "2", ("width", (0, 1)))
        check_truth(self, True, one == Reply("number", "2", ("width", (0, 1))))
        for other in (
            Reply("alike", "2", ("width", (0, 1))), Reply("number", "3", ("width", (0, 1))),
            Reply("number", "2", ("width", (0, 2))),
            Reply("number", "2"), Reply("number"), Reply("number", "2", ["width", (0, 1)]),
            Reply("number", 2, ("width", (0, 1))),
            Reply(None, "2", ("width", (0, 1))), ("number", "2", ("width", (0, 1))), *VALUES,
        ):
            check_truth(self, False, one == other, other)
            check_truth(self, True, one != other, other)
        check_truth(self, True, Reply("done") == Reply("done", "", ()))


class ReplyToTest(unittest.TestCase):
    def check_reply(self, line, kind, text, data=()):
        told = check_steady(self, reply_to, NAMES, line)
        self.assertIs(type(told), Reply)
        self.assertEqual(frozen((told.kind, told.text, told.data)), frozen((kind, text, data)), line)

    def test_orders(self):
        for line, order in (
            ("let a = 3: 0<1 0<2", VEE), ("chain a 3", chain(3)), ("chain vee 0", chain(0)),
            ("antichain a 10", antichain(10)),
            ("parallel a vee row", parallel(VEE, chain(3))), ("ordinal a vee row", ordinal(VEE, chain(3))),
            ("product a vee row", product(VEE, chain(3))), ("common a vee row", common_part((VEE, chain(3)))),
            ("parallel vee row vee", parallel(chain(3), VEE)), ("ordinal a row vee", ordinal(chain(3), VEE)),
            ("product a row vee", product(chain(3), VEE)), ("common a row turn", common_part((chain(3), VEE.turned()))),
            ("turned a vee", VEE.turned()), ("turned a empty", Order(0, ())), ("  turned   b   turn ", VEE),
            ("show vee", VEE),
            ("show big", NAMES["big"]), ("form vee", form(VEE)), ("form turn", form(VEE.turned())),
            ("form big", form(NAMES["big"])),
            ("product a empty crown", Order(0, ())), ("ordinal a row seven", chain(10)),
        ):
            self.check_reply(line, "order", str(order))

    def test_texts_of_orders(self):
        self.check_reply("show vee", "order", "3: 0<1 0<2")
        self.check_reply("turned a vee", "order", "3: 1<0 2<0")
        self.check_reply("form turn", "order", "3: 0<2 1<2")
        self.check_reply("chain a 0", "order", "0:")
        self.check_reply("common a vee row", "order", "3: 0<1 0<2")

    def test_numbers_with_papers(self):
        for name, order in NAMES.items():
            for word, call, takes in (("width", width_paper, takes_width), ("length", length_paper, takes_length)):
                paper = call(order)
                check_truth(self, True, takes(order, paper))
                self.check_reply(f"{word} {name}", "number", str(len(paper[1])), paper)
            if order.n <= 6:
                self.check_reply(f"dimension {name}", "number", str(dimension(order)), dimension_paper(order))
            else:
                self.check_reply(f"dimension {name}", "error", "refused large")
        self.check_reply("width vee", "number", "2", ("width", (1, 2), ((0, 1), (2,))))
        self.check_reply("width empty", "number", "0", ("width", (), ()))
        self.check_reply("length ten", "number", "1", ("length", (0,), (tuple(range(10)),)))
        self.check_reply("dimension row", "number", "1", ("dimension", ((0, 1, 2),)))
        self.assertEqual(reply_to(NAMES, "dimension crown").text, "3")

    def test_alike(self):
        for one, two in itertools.product(("empty", "one", "vee", "row", "turn", "four", "crown", "ten"), repeat=2):
            a, b = NAMES[one], NAMES[two]
            self.check_reply(f"alike {one} {two}", "alike", "yes" if alike(a, b) else "no", pair_paper(a, b))
        self.check_reply("alike vee four", "alike", "no", ("none", ()))
        self.check_reply("alike empty empty", "alike", "yes", ("map", ()))
        self.check_reply("alike ten wide", "error", "refused large")

    def test_numbers(self):
        for name, order in NAMES.items():
            self.check_reply(f"linear {name}", "number", str(count_linear(order)))
            self.check_reply(f"group {name}", "number", str(group_order(order)))
            for x, y in itertools.product(range(0, order.n, 2), range(order.n)):
                self.check_reply(f"moebius {name} {x} {y}", "number", str(moebius(order).value(x, y)))
        self.check_reply("linear ten", "number", "3628800")
        self.check_reply("group ten", "number", "3628800")
        self.check_reply("moebius vee 0 1", "number", "-1")
        self.check_reply("moebius vee 1 0", "number", "0")
        self.check_reply("moebius vee 1 1", "number", "1")

    def test_empty_lines(self):
        for line in ("", "  ", "#", "# width zz", "#x"):
            self.check_reply(line, "done", "")

    def test_errors_of_reading(self):
        for line in ("x", "width", "show A", "let a = 11:", "chain a 100", " # x", "a\nb", "5 \x25", " " * 2001,
            *VALUES):
            if line != "":
                self.check_reply(line, "error", "text")

    def test_errors_of_carrying_out(self):
        for line in (
            "show zz", "form zz", "width zz", "length zz", "dimension zz", "alike zz vee", "alike vee zz", "linear zz",
            "group zz",
            "moebius zz 0 0", "moebius zz 99 99", "turned a zz", "turned vee a", "parallel a zz vee",
            "parallel a vee zz",
            "ordinal a zz zz", "product a vee zz", "common a zz vee", "common a four zz", "product a zz crown",
            "show show",
        ):
            self.check_reply(line, "error", "refused name")
        for line in ("moebius vee 3 0", "moebius vee 0 3", "moebius vee 99 99", "moebius empty 0 0",
            "moebius ten 10 9"):
            self.check_reply(line, "error", "refused point")
        for line in (
            "chain a 11", "antichain a 99", "parallel a ten one", "ordinal a crown crown", "product a crown row",
            "dimension seven", "dimension ten", "alike wide ten",
        ):
            self.check_reply(line, "error", "refused large")
        for line in ("common a vee four", "common a empty ten"):
            self.check_reply(line, "error", "malformed")

    def test_names_are_not_changed(self):
        for names in ({}, {"a": VEE}, dict(NAMES)):
            before = frozen(names)
            for line in LINES + ["let b = 2: 0<1", "chain vee 2"]:
                reply_to(names, line)
                defined(names, line)
                is_right(names, (line, TEXT))
            self.assertEqual(frozen(names), before)
        self.assertEqual(reply_to({}, "let a = 1:"), Reply("order", "1:"))
        self.assertEqual(reply_to({}, "show a"), NO_NAME)


class DefinedTest(unittest.TestCase):
    def test_defining_lines(self):
        for line, name, order in (
            ("let a = 3: 0<1 0<2", "a", VEE), ("chain vee 3", "vee", chain(3)),
            ("antichain abcdefgh 4", "abcdefgh", antichain(4)),
            ("parallel a vee row", "a", parallel(VEE, chain(3))), ("ordinal b vee row", "b", ordinal(VEE, chain(3))),
            ("product c vee row", "c", product(VEE, chain(3))), ("common vee vee row", "vee", common_part((VEE,
            chain(3)))),
            (" turned  d  vee ", "d", VEE.turned()),
        ):
            told = check_steady(self, defined, NAMES, line)
            self.assertEqual(frozen(told), frozen((name, order)), line)
            self.assertEqual(reply_to(NAMES, line), Reply("order", str(order)))

    def test_other_lines_and_errors(self):
        for line in [
            "show vee", "form vee", "width vee", "length vee", "dimension vee", "alike vee vee", "linear vee",
            "group vee",
            "moebius vee 0 0", "", "# let a = 1:", "let a = 1: x", "chain a 11", "chain A 1", "parallel a ten ten",
            "turned a zz",
            "common a vee four", "show zz", "x", "let a", *VALUES,
        ]:
            self.assertIsNone(check_steady(self, defined, NAMES, line), line)


class IsRightTest(unittest.TestCase):
    def check_right(self, line, *replies):
        for reply in replies:
            told = check_steady(self, is_right, NAMES, (line, reply))
            check_truth(self, True, told, line, vars(reply))

    def check_wrong(self, line, *replies):
        for reply in replies:
            told = is_right(NAMES, (line, reply))
            check_truth(self, False, told, line, vars(reply))

    def test_replies_of_the_program(self):
        for line in LINES + [5, None, True, ["show vee"], VEE, ("",), "a\nb"]:
            self.check_right(line, reply_to(NAMES, line))
            for names in ({}, {"vee": NAMES["ten"]}):
                check_truth(self, True, is_right(names, (line, reply_to(names, line))), line)

    def test_changed_replies(self):
        for line in LINES + [5, None]:
            right = reply_to(NAMES, line)
            for kind in ("number", "order", "alike", "done", "error", "text", "", None, 1, [right.kind]):
                if kind != right.kind:
                    self.check_wrong(line, Reply(kind, right.text, right.data))
            for text in ("0", "1", "2", "3", "yes", "no", "text", "malformed", "refused name", "refused", "", None, 2,
                ()):
                if text != right.text:
                    self.check_wrong(line, Reply(right.kind, text, right.data))
            self.check_wrong(line, Reply(right.kind, right.text + " ", right.data),
                Reply(right.kind, [right.text], right.data))
            for data in itertools.islice(twisted(right.data), 0, 400):
                self.check_wrong(line, Reply(right.kind, right.text, data))
            for data in ((0,), ("width",), ("width", (), ()), ("map", ()), ("none", ()), ("none", (), ()), None, [],
                ((),)):
                if data != right.data:
                    self.check_wrong(line, Reply(right.kind, right.text, data))

    def test_replies_to_other_lines(self):
        for one, two in itertools.product(LINES, repeat=2):
            reply = reply_to(NAMES, two)
            told = is_right(NAMES, (one, reply))
            check_truth(self, reply == reply_to(NAMES, one), told, one, two)

    def test_other_right_papers(self):
        self.check_right(
            "width vee", Reply("number", "2", ("width", (1, 2), ((0, 2), (1,)))),
            Reply("number", "2", ("width", (1, 2), ((1,), (0, 2)))),
        )
        self.check_wrong(
            "width vee", Reply("number", "2", ("width", (1, 2), ((0,), (1, 2)))),
            Reply("number", "3", ("width", (1, 2), ((0, 2), (1,)))),
            Reply("number", "2", ("width", (0, 1), ((0, 2), (1,)))), Reply("alike", "2", ("width", (1, 2), ((0, 2),
            (1,)))),
            Reply("number", "2", ("length", (0, 1), ((0,), (1, 2)))), Reply("number", "2", ()), Reply("number", "2"),
        )
        self.check_right(
            "length vee", Reply("number", "2", ("length", (0, 2), ((0,), (1, 2)))),
            Reply("number", "2", ("length", (0, 1), ((1, 2), (0,)))),
        )
        self.check_right("dimension vee", Reply("number", "2", ("dimension", ((0, 2, 1), (0, 1, 2)))))
        self.check_wrong("dimension vee", Reply("number", "3", ("dimension", ((0, 2, 1), (0, 1, 2), (0, 1, 2)))))
        self.check_right(
            "alike vee vee", Reply("alike", "yes", ("map", (0, 1, 2))), Reply("alike", "yes", ("map", (0, 2, 1))),
        )
        self.check_wrong(
            "alike vee vee", Reply("alike", "yes", ("map", (1, 0, 2))), Reply("alike", "no", ("map", (0, 2, 1))),
            Reply("number", "yes", ("map", (0, 2, 1))), Reply("alike", "no", ("none", ())),
            Reply("alike", "3", ("map", (0, 2, 1))),
        )
        self.check_wrong("alike vee row", Reply("alike", "yes", ("map", (0, 1, 2))), Reply("alike", "no", ("none", ())))
        self.check_right("alike vee four", Reply("alike", "no", ("none", ())))
        self.check_wrong("alike vee four", Reply("alike", "yes", ("none", ())), Reply("alike", "no"))

    def test_papers_that_the_program_does_not_make(self):
        # The reply is an error here, and it is right; so is one with a paper that the checker takes.
        names = {
            "a": read_order("10: 4<5 5<3 5<9 6<9 7<0 9<0"), "b": read_order("10: 0<4 3<0 3<8 9<2 9<7"),
            "one": parallel(antichain(8), chain(2)), "two": parallel(antichain(7), chain(3)),
        }
        levels = self.walked_levels(names["a"], names["b"])
        self.assertGreater(max(len(level) for level in levels), 2000)
        reply = Reply("alike", "no", ("none", levels))
        check_truth(self, True, is_right(names, ("alike a b", reply)))
        check_truth(self, False, is_right(names, ("alike a b", Reply("alike", "yes", ("none", levels)))))
        check_truth(self, False, is_right(names, ("alike a b", Reply("alike", "no", ("none", levels[:-1])))))
        check_truth(self, True, is_right(names, ("alike a b", LARGE)))
        check_truth(self, True, is_right(names, ("alike one two", LARGE)))
        for wrong in (Reply("alike", "no"), TEXT, NO_NAME, Reply("error", "refused large", (1,)),
            Reply("number", "refused large")):
            check_truth(self, False, is_right(names, ("alike a b", wrong)), vars(wrong))

    def walked_levels(self, a, b):
        levels = [((),)]
        while levels[-1]:
            x = len(levels) - 1
            levels.append(tuple(
                f + (y,) for f in levels[-1] for y in range(b.n)
                if y not in f and all((a.less(z, x), a.less(x, z)) == (b.less(f[z], y),
                b.less(y, f[z])) for z in range(x))
            ))
        return tuple(levels[1:])

    def test_errors_do_not_stand_in_the_place_of_papers(self):
        for line in ("width vee", "length vee", "dimension vee", "alike vee row", "alike vee turn"):
            self.check_wrong(line, TEXT, NO_NAME, LARGE, Reply("error", "malformed"), Reply("done"))

    def test_dimension_of_more_than_six_points(self):
        self.check_right("dimension seven", LARGE)
        self.check_wrong(
            "dimension seven", Reply("number", "1", ("dimension", (tuple(range(7)),))), TEXT, NO_NAME,
            Reply("number", "1"),
            Reply("error", "refused large", ("dimension", (tuple(range(7)),))), Reply("number", "refused large"),
        )
        self.check_right("dimension ten", LARGE)

    def test_names_that_are_not_defined(self):
        for line in ("width zz", "length zz", "dimension zz", "alike vee zz", "alike zz zz", "show zz", "turned a zz"):
            self.check_right(line, NO_NAME)
            self.check_wrong(
                line, TEXT, LARGE, Reply("error", "refused"), Reply("error", "name"),
                Reply("number", "0", ("width", (), ())),
                Reply("alike", "no", ("none", ())), Reply("error", "refused name", (0,)),
            )

    def test_values_that_are_no_lines(self):
        for value in VALUES + ("x", "a\nb", ["#"], ("#",)):
            if value != "":
                self.check_right(value, TEXT)
                self.check_wrong(value, Reply("done"), NO_NAME, Reply("error", "text", (1,)), Reply("error"))

    def test_values_that_are_no_entries(self):
        right = ("show vee", reply_to(NAMES, "show vee"))
        check_truth(self, True, is_right(NAMES, right))
        for entry in (
            list(right), right + (1,), right[:1], (), right[::-1], (right,), ("show vee", "3: 0<1 0<2"), right[1],
            "show vee",
            ("show vee", ("order", "3: 0<1 0<2", ())), ("show vee", None), ("show vee", ["order"]), ("", ()),
            ["", Reply("done")],
            ("", "done"), ("", Reply), (Reply("done"), ""), ("show vee", right), ("width vee", None), ("width vee", VEE),
            ("width vee", "2"), ("alike vee vee", ("alike", "yes", ("map", (0, 1, 2)))), *VALUES,
        ):
            check_truth(self, False, check_steady(self, is_right, NAMES, entry), entry)

    def test_replies_with_every_value(self):
        for line in ("width vee", "show vee", "", "dimension ten", "alike vee row", "x"):
            right = reply_to(NAMES, line)
            for value in VALUES:
                if frozen(value) != frozen(right.kind):
                    self.check_wrong(line, Reply(value, right.text, right.data))
                if frozen(value) != frozen(right.text):
                    self.check_wrong(line, Reply(right.kind, value, right.data))
                if frozen(value) != frozen(right.data):
                    self.check_wrong(line, Reply(right.kind, right.text, value))
                self.check_wrong(line, Reply(value, value, value))

    def test_small_orders(self):
        for order in small_orders(3):
            names = {"a": order, "b": VEE}
            for line in ("show a", "form a", "width a", "length a", "dimension a", "alike a b", "linear a", "group a",
                "turned c a"):
                reply = reply_to(names, line)
                self.assertNotEqual(reply.kind, "error")
                check_truth(self, True, is_right(names, (line, reply)))
                check_truth(self, False, is_right({}, (line, reply)))


if __name__ == "__main__":
    unittest.main()

"""orderforms.console: point 9.4."""

import unittest

from helper import VALUES, check_class, check_error, frozen
from orderforms.build import antichain, chain
from orderforms.console import Console
from orderforms.errors import Malformed, Refused
from orderforms.log import first_wrong, read_log, write_log
from orderforms.order import Order
from orderforms.replies import Reply, reply_to

VEE = Order(3, ((0, 1), (0, 2)))
LINES = (
    "let a = 3: 0<1 0<2", "show a", "width a", "turned b a", "alike a b", "chain a 4", "width a", "group b", "x",
    "show c", "",
    "# comment", "chain b 11", "dimension b", "moebius b 1 0", "moebius b 5 5", "product c a b", "common c a b",
    "antichain c 2",
    "parallel c c c", "form c", "linear c", "length c",
)


class ConsoleTest(unittest.TestCase):
    def test_names(self):
        check_class(self, "console", "Console", "(*, most=300)", {
            "__init__": "(self, *, most=300)", "enter": "(self, line)", "__len__": "(self)", "__iter__": "(self)",
            "names": "(self)", "log": "(self)",
        })
        with self.assertRaises(TypeError):
            Console(5)

    def test_examples(self):
        console = Console()
        self.assertEqual(console.enter("let a = 3: 0<1 0<2").text, "3: 0<1 0<2")
        self.assertEqual(console.enter("width a").text, "2")

    def test_replies_and_entries(self):
        console = Console()
        entries = []
        for k, line in enumerate(LINES):
            names = console.names()
            reply = console.enter(line)
            self.assertIs(type(reply), Reply)
            self.assertEqual(frozen(reply), frozen(reply_to(names, line)), line)
            entries.append((line, reply))
            self.assertEqual(len(console), k + 1)
            self.assertEqual(frozen(list(console)), frozen(entries))
            self.assertTrue(all(type(entry) is tuple for entry in console))
        self.assertEqual([entry for entry in console], entries)
        self.assertEqual([reply.kind for line, reply in console].count("error"), 6)
        self.assertEqual([line for line, reply in console], list(LINES))

    def test_definitions(self):
        console = Console()
        self.assertEqual(console.names(), {})
        console.enter("let a = 3: 0<1 0<2")
        self.assertEqual(console.names(), {"a": VEE})
        console.enter("turned b a")
        console.enter("chain a 2")
        self.assertEqual(console.names(), {"a": chain(2), "b": VEE.turned()})
        console.enter("common a a a")
        console.enter("ordinal a a a")
        self.assertEqual(console.names(), {"a": chain(4), "b": VEE.turned()})
        self.assertEqual(console.enter("show a"), Reply("order", "4: 0<1 1<2 2<3"))

    def test_errors_define_nothing_but_are_entries(self):
        console = Console()
        console.enter("antichain a 6")
        for k, (line, text) in enumerate((
            ("chain a 11", "refused large"), ("product a a a", "refused large"), ("turned a b", "refused name"),
            ("let a = 2: x", "text"),
            ("let a", "text"), ("show b", "refused name"), ("moebius a 6 0", "refused point"), ("chain A 3", "text"),
        )):
            self.assertEqual(console.enter(line), Reply("error", text))
            self.assertEqual(len(console), k + 2)
            self.assertEqual(console.names(), {"a": antichain(6)})
        self.assertEqual(list(console)[-1], ("chain A 3", Reply("error", "text")))
        console.enter("let b = 2:")
        self.assertEqual(console.enter("common a a b"), Reply("error", "malformed"))
        self.assertEqual(console.names(), {"a": antichain(6), "b": antichain(2)})

    def test_lines_that_define_nothing(self):
        console = Console()
        console.enter("let a = 3: 0<1 0<2")
        for line in ("show a", "form a", "width a", "length a", "dimension a", "alike a a", "linear a", "group a",
            "moebius a 0 1", "", "#"):
            console.enter(line)
            self.assertEqual(console.names(), {"a": VEE})

    def test_values_that_are_no_lines(self):
        console = Console()
        for value in VALUES:
            if value != "":
                self.assertEqual(console.enter(value), Reply("error", "text"))
        self.assertEqual(console.names(), {})
        self.assertEqual(len(console), len([value for value in VALUES if value != ""]))

    def test_at_most_as_many_lines_as_were_chosen(self):
        for most in (0, 1, 2, 5):
            console = Console(most=most)
            lines = ("let a = 1:", "show a", "x", "", "turned b a")[:most]
            for line in lines:
                console.enter(line)
            before = frozen((list(console), console.names(), console.log(), len(console)))
            for line in ("let c = 2:", "show a", "", "x", "let a = 2:"):
                check_error(self, Refused, console.enter, line, reason="lines")
                self.assertEqual(frozen((list(console), console.names(), console.log(), len(console))), before)
            self.assertEqual([line for line, reply in console], list(lines))
        self.assertEqual((list(Console(most=0)), Console(most=0).log(), len(Console(most=0))), ([], "", 0))

    def test_three_hundred_unless_told_otherwise(self):
        console = Console()
        for k in range(300):
            self.assertEqual(console.enter("x" if k % 2 else ""), Reply("error", "text") if k % 2 else Reply("done"))
        check_error(self, Refused, console.enter, "", reason="lines")
        self.assertEqual(len(console), 300)
        console = Console(most=301)
        for k in range(301):
            console.enter("")
        check_error(self, Refused, console.enter, "", reason="lines")

    def test_names_is_a_new_dict_each_time(self):
        console = Console()
        console.enter("let a = 1:")
        told = console.names()
        self.assertIs(type(told), dict)
        self.assertIsNot(told, console.names())
        told["b"] = VEE
        del told["a"]
        self.assertEqual(console.names(), {"a": Order(1, ())})
        self.assertEqual(console.enter("show b"), Reply("error", "refused name"))
        self.assertEqual(console.enter("show a"), Reply("order", "1:"))
        before = console.names()
        console.enter("let a = 2:")
        self.assertEqual(before, {"a": Order(1, ())})

    def test_log(self):
        console = Console()
        self.assertEqual(console.log(), "")
        for line in LINES:
            console.enter(line)
            self.assertEqual(console.log(), write_log(list(console)))
        told = console.log()
        self.assertEqual(frozen(read_log(told)), frozen(list(console)))
        self.assertEqual(first_wrong(read_log(told)), -1)
        self.assertEqual(first_wrong(list(console)), -1)
        self.assertTrue(told.startswith("> let a = 3: 0<1 0<2\n= order 3: 0<1 0<2\n# ()\n> show a\n"))

    def test_log_with_a_line_that_has_no_written_form(self):
        for line in ("a\nb", 5, None):
            console = Console()
            console.enter(line)
            check_error(self, Malformed, console.log)

    def test_consoles_do_not_share_anything(self):
        one, two = Console(), Console()
        one.enter("let a = 1:")
        self.assertEqual((len(one), len(two), two.names(), list(two)), (1, 0, {}, []))
        self.assertEqual(two.enter("show a"), Reply("error", "refused name"))

    def test_iterating_twice(self):
        console = Console()
        console.enter("let a = 1:")
        console.enter("show a")
        self.assertEqual([line for line, reply in console for other in console], ["let a = 1:"] * 2 + ["show a"] * 2)


if __name__ == "__main__":
    unittest.main()

"""Point 8.4 and the interface of fieldmaps.console, and what the document promises over the whole program."""

import unittest

from fieldmaps.console import Console
from fieldmaps.errors import Refused
from fieldmaps.replies import first_wrong, is_right, reply_to
from tests.plain import F2, F4, F7, F9, ODD_VALUES

SESSION = (
    "field f 3 1,0,1", "factor f 1,0,1", "field g 3 2,1,1", "maps f g", "order f 4", "log f 4 1", "roots f 1 4",
    "least f 4", "trace f 4 1", "norm f 4 1", "recur f 1,1", "order f 0", "order h 1", "what", "", "# end",
    "field f 7 0,1", "order f 3", "maps f g", "field f 6 0,1", "order f 3",
)


def entered(*lines):
    console = Console()
    for line in lines:
        console.enter(line)
    return console


class TestEnter(unittest.TestCase):
    def test_replies_over_the_fields_so_far(self):
        console, fields = Console(), {}
        for line in SESSION:
            self.assertEqual(console.enter(line), reply_to(fields, line))
            fields = console.fields()

    def test_a_name_that_is_defined_again(self):
        console = entered("field f 7 0,1")
        self.assertEqual(console.enter("order f 3")[1], "6")
        console.enter("field f 3 1,0,1")
        self.assertEqual(console.enter("order f 3")[1], "4")
        console.enter("field f 4 0,1")
        self.assertEqual(console.enter("order f 3")[1], "4")
        self.assertEqual(console.fields(), {"f": F9})

    def test_examples(self):
        console = Console()
        self.assertEqual(console.enter("field f 3 1,0,1"), ("field", "3^2", ()))
        self.assertEqual(console.enter("order f 3"), ("order", "4", ("order", 4, (2,))))

    def test_errors_are_entries_too(self):
        console = Console()
        lines = ["order f 1", "what", "field f 4 0,1", "field f 401 0,1", "%", "#" * 2001]
        for line in lines:
            self.assertEqual(console.enter(line)[0], "error")
        self.assertEqual(len(console), 6)
        self.assertEqual([line for line, _ in console.entries()], lines)
        self.assertEqual(console.fields(), {})

    def test_values_that_are_no_lines(self):
        for value in ODD_VALUES:
            if not isinstance(value, str):
                console = Console()
                self.assertEqual(console.enter(value), ("error", "text", ()))
                self.assertEqual(console.entries(), [(value, ("error", "text", ()))])


class TestEntries(unittest.TestCase):
    def test_in_their_order(self):
        console = Console()
        expected = []
        self.assertEqual(console.entries(), [])
        self.assertEqual(len(console), 0)
        for line in SESSION:
            expected.append((line, console.enter(line)))
            self.assertEqual(console.entries(), expected)
            self.assertEqual(len(console), len(expected))

    def test_kinds(self):
        entries = entered(*SESSION).entries()
        self.assertIs(type(entries), list)
        for entry in entries:
            self.assertIs(type(entry), tuple)
            self.assertIs(type(entry[1]), tuple)
            self.assertEqual((len(entry), len(entry[1])), (2, 3))

    def test_they_are_right(self):
        console = entered(*SESSION)
        self.assertEqual(first_wrong(console.entries()), -1)
        self.assertIs(is_right(console.fields(), console.entries()[-1]), True)

    def test_a_new_list_each_time(self):
        console = entered(*SESSION)
        before = console.entries()
        self.assertIsNot(console.entries(), console.entries())
        changed = console.entries()
        changed.append(("x", None))
        changed[0] = None
        self.assertEqual(console.entries(), before)
        changed.clear()
        self.assertEqual(console.entries(), before)
        self.assertEqual(len(console), len(SESSION))


class TestFields(unittest.TestCase):
    def test_those_that_are_defined(self):
        console = Console()
        self.assertEqual(console.fields(), {})
        console.enter("field f 2 0,1")
        self.assertEqual(console.fields(), {"f": F2})
        console.enter("field abcdefgh 2 1,1,1")
        console.enter("field h 2 1,0,1")
        self.assertEqual(console.fields(), {"f": F2, "abcdefgh": F4})
        console.enter("field f 3 1,0,1")
        self.assertEqual(console.fields(), {"f": F9, "abcdefgh": F4})

    def test_a_new_dict_each_time(self):
        console = entered("field f 7 4,1", "field g 3 1,0,1")
        before = console.fields()
        self.assertIs(type(before), dict)
        self.assertIsNot(console.fields(), console.fields())
        changed = console.fields()
        changed["f"] = F2
        changed["h"] = F4
        del changed["g"]
        self.assertEqual(console.fields(), before)
        self.assertEqual(console.fields(), {"f": F7, "g": F9})
        self.assertEqual(console.enter("order h 1"), ("error", "refused name", ()))
        self.assertEqual(console.enter("order g 3")[1], "4")

    def test_an_old_dict_stays(self):
        console = entered("field f 7 4,1")
        before = console.fields()
        console.enter("field g 2 0,1")
        self.assertEqual(before, {"f": F7})


class TestLines(unittest.TestCase):
    def test_300_and_the_next(self):
        console = entered("field f 7 4,1")
        for k in range(298):
            console.enter(f"order f {k}")
        self.assertEqual(console.enter("order f 3")[1], "6")
        self.assertEqual(len(console), 300)
        entries, fields = console.entries(), console.fields()
        for line in ("order f 3", "field g 2 0,1", "field f 2 0,1", "what", "", "#", None):
            with self.assertRaises(Refused) as caught:
                console.enter(line)
            self.assertEqual(caught.exception.reason, "lines")
            self.assertEqual(len(console), 300)
            self.assertEqual(console.entries(), entries)
            self.assertEqual(console.fields(), fields)

    def test_errors_and_empty_lines_count(self):
        console = Console()
        for k in range(300):
            self.assertEqual(len(console), k)
            console.enter(("", "#", "what", "order f 1", "field f 4 0,1")[k % 5])
        with self.assertRaises(Refused):
            console.enter("")


class TestTwoConsoles(unittest.TestCase):
    def test_they_share_nothing(self):
        first, second = Console(), Console()
        first.enter("field f 7 4,1")
        self.assertEqual((len(second), second.entries(), second.fields()), (0, [], {}))
        self.assertEqual(second.enter("order f 3"), ("error", "refused name", ()))
        second.enter("field f 3 1,0,1")
        self.assertEqual(first.enter("order f 3")[1], "6")
        self.assertEqual(second.enter("order f 3")[1], "4")
        self.assertEqual((len(first), len(second)), (2, 3))

    def test_equal_lines_give_equal_entries(self):
        self.assertEqual(entered(*SESSION).entries(), entered(*SESSION).entries())
        self.assertEqual(entered(*SESSION).fields(), entered(*SESSION).fields())


if __name__ == "__main__":
    unittest.main()

"""Points 8.3 and 8.5 and the interface of fieldmaps.replies."""

import unittest
from itertools import product

from fieldmaps.checker import takes_factors, takes_maps, takes_order, takes_recurrence
from fieldmaps.conjugates import least_row, norm, trace
from fieldmaps.factoring import factors
from fieldmaps.field import Field
from fieldmaps.irreducible import least_irreducible
from fieldmaps.maps import all_maps
from fieldmaps.orders import logarithm, order_of, roots_of
from fieldmaps.papers import factors_paper, maps_paper, order_paper, recurrence_paper
from fieldmaps.poly import Poly, variable
from fieldmaps.recurrences import Recurrence, least_recurrence
from fieldmaps.replies import defined, first_wrong, is_right, reply_to
from tests.plain import F2, F3, F4, F5, F7, F8, F9, F16, F397, ODD_VALUES, changes, divisors_of, poly, polys_below

OTHER9 = Field(3, (2, 1, 1))
FIELDS = {"b": F2, "c": F3, "d": F4, "e": F5, "g": F7, "h": F8, "i": F9, "j": OTHER9, "k": F16, "z": F397}
SMALL = ("b", "c", "d", "e", "i")

# Values of a line that is none: strings are among them, since every value may be passed.
NO_LINES = (*ODD_VALUES, F4, variable(F4), Recurrence(F4, ()), ("order b 1",), ["order b 1"], b"order b 1", "order",
            "order b", "order b 1 1", "ORDER b 1", "order b 1%", "order b 10000", "order b 01", " #", "#" * 2001)
NO_LINES = tuple(value for value in NO_LINES if value != "")


def joined(numbers):
    return ",".join(str(number) for number in numbers)


def numbers_of(field, row):
    return [field.number(a) for a in row]


def error(text):
    return ("error", text, ())


def rows_of(field, length):
    """Tuples of as many numbers of members, zeros alone and zeros at the end among them."""
    return list(product(range(field.q), repeat=length))


class TestFieldLines(unittest.TestCase):
    def test_texts(self):
        for line, text in (("field f 2 0,1", "2^1"), ("field f 2 1,1,1", "2^2"), ("field f 3 1,0,1", "3^2"),
                           ("field a 397 396,1", "397^1"), ("field abcdefgh 2 1,1,0,1,1,0,0,0,1", "2^8"),
                           ("field f 19 1,0,1", "19^2"), ("  field   f  7   2,0,0,1 ", "7^3")):
            self.assertEqual(reply_to({}, line), ("field", text, ()))

    def test_a_name_that_is_defined_already(self):
        self.assertEqual(reply_to({"f": F2}, "field f 3 1,0,1"), ("field", "3^2", ()))

    def test_malformed(self):
        for line in ("field f 4 0,1", "field f 0 0,1", "field f 1 0,1", "field f 9 0,1", "field f 9999 0,1",
                     "field f 2 1,0,1", "field f 2 1", "field f 2 0", "field f 2 0,1,0", "field f 2 1,2",
                     "field f 3 1,2", "field f 3 3,1", "field f 3 9999,1", "field f 401 401,1",
                     "field f 401 0,2", "field f 401 1"):
            self.assertEqual(reply_to({}, line), error("malformed"), line)

    def test_large(self):
        for line in ("field f 401 0,1", "field f 9973 0,1", "field f 23 1,0,1", "field f 23 0,0,1",
                     "field f 2 1,0,0,0,0,0,0,0,0,1", "field f 2 " + "0," * 29 + "1"):
            self.assertEqual(reply_to({}, line), error("refused large"), line)


class TestResults(unittest.TestCase):
    def test_examples(self):
        for line, kind, text in (
            ("factor b 0,0,1,1", "factors", "1 (0,1)^2 (1,1)^1"), ("factor i 5", "factors", "5"),
            ("factor e 0,2", "factors", "2 (0,1)^1"), ("maps i i", "maps", "3,6"), ("maps i j", "maps", "5,7"),
            ("maps g g", "maps", "3"), ("order g 3", "order", "6"), ("order b 1", "order", "1"),
            ("log g 3 6", "log", "3"), ("log g 2 3", "log", "none"), ("log g 3 1", "log", "0"),
            ("roots g 1 3", "roots", "1,2,4"), ("roots g 3 2", "roots", ""), ("roots g 0 5", "roots", "0"),
            ("least i 4", "row", "2,1,1"), ("trace i 4 1", "member", "2"), ("norm i 4 1", "member", "2"),
            ("trace i 4 2", "member", "4"), ("recur e 0,1,1,3", "recurrence", "2,1"), ("recur e 0,0", "recurrence", ""),
            ("recur e 3,1", "recurrence", "2"), ("maps d k", "maps", "12,13"), ("maps k d", "maps", ""),
            ("maps b c", "maps", ""), ("", "done", ""), ("#", "done", ""), ("   ", "done", ""),
        ):
            self.assertEqual(reply_to(FIELDS, line)[:2], (kind, text), line)

    def test_factor(self):
        for name, length in (("b", 5), ("c", 3), ("d", 3), ("e", 2)):
            field = FIELDS[name]
            for row in rows_of(field, length):
                f = poly(field, *row)
                if f.row:
                    parts = [f" ({joined(numbers_of(field, g.row))})^{k}" for g, k in factors(f)]
                    expected = ("factors", str(field.number(f.row[-1])) + "".join(parts), factors_paper(f))
                else:
                    expected = error("zero")
                self.assertEqual(reply_to(FIELDS, f"factor {name} {joined(row)}"), expected)

    def test_maps(self):
        for first, second in product(FIELDS, repeat=2):
            a, b = FIELDS[first], FIELDS[second]
            text = joined(b.number(f.image) for f in all_maps(a, b))
            data = maps_paper(a, b) if a.q == b.q else ()
            self.assertEqual(reply_to(FIELDS, f"maps {first} {second}"), ("maps", text, data))

    def test_order_and_least(self):
        for name, field in FIELDS.items():
            for number in range(field.q):
                a = field.member(number)
                expected = ("order", str(order_of(field, a)), order_paper(field, a)) if number else error("zero")
                self.assertEqual(reply_to(FIELDS, f"order {name} {number}"), expected)
                expected = ("row", joined(least_row(field, a)), ())
                self.assertEqual(reply_to(FIELDS, f"least {name} {number}"), expected)

    def test_log(self):
        for name in SMALL:
            field = FIELDS[name]
            for first, second in product(range(field.q), repeat=2):
                if first and second:
                    found = logarithm(field, field.member(first), field.member(second))
                    expected = ("log", "none" if found is None else str(found), ())
                else:
                    expected = error("refused zero")
                self.assertEqual(reply_to(FIELDS, f"log {name} {first} {second}"), expected)

    def test_roots(self):
        for name in SMALL:
            field = FIELDS[name]
            for number, k in product(range(field.q), (1, 2, 3, 4, 8, 9999)):
                expected = joined(numbers_of(field, roots_of(field, field.member(number), k)))
                self.assertEqual(reply_to(FIELDS, f"roots {name} {number} {k}"), ("roots", expected, ()))

    def test_trace_and_norm(self):
        for name, field in FIELDS.items():
            for number, d in product(range(0, field.q, max(1, field.q // 20)), range(1, field.n + 2)):
                a = field.member(number)
                for word, function in (("trace", trace), ("norm", norm)):
                    expected = error("refused degree")
                    if d in divisors_of(field.n):
                        expected = ("member", str(field.number(function(field, a, d))), ())
                    self.assertEqual(reply_to(FIELDS, f"{word} {name} {number} {d}"), expected)

    def test_recur(self):
        for name, length in (("b", 6), ("c", 4), ("d", 3), ("e", 1)):
            field = FIELDS[name]
            for row in rows_of(field, length):
                terms = tuple(field.member(number) for number in row)
                multiples = least_recurrence(field, terms)
                expected = error("refused short")
                if 2 * len(multiples) <= length:
                    text = joined(numbers_of(field, multiples))
                    expected = ("recurrence", text, recurrence_paper(field, terms))
                self.assertEqual(reply_to(FIELDS, f"recur {name} {joined(row)}"), expected)

    def test_rows_with_zeros_at_the_end(self):
        paper = factors_paper(poly(F2, 0, 1))
        for row in ("0,1", "0,1,0", "0,1,0,0,0", "0,1" + ",0" * 28):
            self.assertEqual(reply_to(FIELDS, "factor b " + row), ("factors", "1 (0,1)^1", paper))
        for row in ("0", "0,0", ",".join(["0"] * 30)):
            self.assertEqual(reply_to(FIELDS, "factor b " + row), error("zero"))
            self.assertEqual(reply_to(FIELDS, "recur b " + row), ("recurrence", "", ("recurrence", (), ())))
        self.assertEqual(reply_to(FIELDS, "recur e 3,0"), ("recurrence", "0", ("recurrence", ((0,),), (((2,),),))))

    def test_rows_of_30_numbers(self):
        for name in ("b", "k", "z"):
            field = FIELDS[name]
            f = least_irreducible(field, 29)
            text = joined(numbers_of(field, f.row))
            reply = reply_to(FIELDS, f"factor {name} {text}")
            self.assertEqual(reply[:2], ("factors", f"1 ({text})^1"))
            self.assertTrue(takes_factors(f, reply[2]))

    def test_the_checker_takes_the_data(self):
        self.assertTrue(takes_factors(poly(F9, 1, 2, 0, 5), reply_to(FIELDS, "factor i 1,2,0,5")[2]))
        self.assertTrue(takes_maps(F9, OTHER9, reply_to(FIELDS, "maps i j")[2]))
        self.assertTrue(takes_order(F9, (1, 2), reply_to(FIELDS, "order i 7")[2]))
        terms = tuple(F9.member(number) for number in (1, 2, 4, 8))
        self.assertTrue(takes_recurrence(F9, terms, reply_to(FIELDS, "recur i 1,2,4,8")[2]))


class TestErrors(unittest.TestCase):
    def test_no_text(self):
        for line in NO_LINES:
            self.assertEqual(reply_to(FIELDS, line), error("text"), repr(line))
            self.assertEqual(reply_to({}, line), error("text"), repr(line))

    def test_names(self):
        for line in ("factor x 1", "maps x b", "maps b x", "maps x y", "order x 1", "log x 1 1", "roots x 1 1",
                     "least x 1", "trace x 1 1", "norm x 1 1", "recur x 1"):
            self.assertEqual(reply_to(FIELDS, line), error("refused name"))
        for line in ("factor b 1", "maps b b", "order b 1", "recur b 1"):
            self.assertEqual(reply_to({}, line), error("refused name"))

    def test_members(self):
        for line in ("factor b 2", "factor b 0,2,0", "factor b 9999", "factor z 397", "order b 2", "order z 397",
                     "log b 2 1", "log b 1 2", "roots b 2 1", "least i 9", "trace i 9 1", "norm i 9 1", "recur b 2",
                     "recur b 0,0,2", "recur i 9,1"):
            self.assertEqual(reply_to(FIELDS, line), error("refused member"), line)

    def test_k_and_d_of_zero(self):
        for line in ("roots i 4 0", "trace i 4 0", "norm i 4 0", "roots i 0 0"):
            self.assertEqual(reply_to(FIELDS, line), error("refused member"))

    def test_names_ahead_of_members_ahead_of_the_chapters(self):
        for line, text in (
            ("factor x 9999", "refused name"), ("order x 9999", "refused name"), ("roots x 9999 0", "refused name"),
            ("trace x 1 0", "refused name"), ("recur x 9999", "refused name"), ("maps x 1", "text"),
            ("roots i 9 0", "refused member"), ("trace i 9 5", "refused member"), ("norm i 4 0", "refused member"),
            ("log i 0 9", "refused member"), ("log i 9 0", "refused member"), ("log i 0 0", "refused zero"),
            ("log i 1 0", "refused zero"), ("log i 0 1", "refused zero"), ("order i 0", "zero"),
            ("order i 9", "refused member"),
            ("factor i 0", "zero"), ("factor i 0,9", "refused member"), ("trace i 4 3", "refused degree"),
            ("norm i 4 9999", "refused degree"), ("recur i 1", "refused short"), ("recur i 0,0,1", "refused short"),
            ("recur i 0,0,9", "refused member"), ("field x 4 0,1", "malformed"), ("field x 401 0,1", "refused large"),
        ):
            self.assertEqual(reply_to(FIELDS, line), error(text), line)

    def test_the_dict_stays(self):
        for line in ("field b 3 1,0,1", "field x 3 1,0,1", "factor b 1", "order x 1", "#", 7, None):
            fields = dict(FIELDS)
            reply_to(fields, line)
            defined(fields, line)
            is_right(fields, (line, ("field", "3^2", ())))
            self.assertEqual(list(fields.items()), list(FIELDS.items()))


class TestDefined(unittest.TestCase):
    def test_fields(self):
        for line, field in (("field f 2 0,1", F2), ("field f 3 1,0,1", F9), ("field f 2 1,1,1,1,1", F16),
                            (" field  b 397 396,1 ", F397)):
            found = defined(FIELDS, line)
            self.assertIsInstance(found, Field)
            self.assertEqual(found, field)
            self.assertEqual(defined({}, line), field)

    def test_none(self):
        lines = ["field f 4 0,1", "field f 2 1,0,1", "field f 401 0,1", "field f 2 2,1", "field F 2 0,1",
                 "factor b 1,1", "maps b b", "order b 1", "order b 0", "recur b 1,1", "#field f 2 0,1", "", "#",
                 "least b 1"]
        for line in (*lines, *NO_LINES):
            self.assertIsNone(defined(FIELDS, line), repr(line))


RIGHT_LINES = (
    "field f 2 0,1", "field f 4 0,1", "field f 401 0,1", "factor b 0,0,1,1", "factor i 1,2,0,5", "factor i 5",
    "factor i 0", "factor b 1,1,1", "factor x 1", "factor b 2", "maps i j", "maps d d", "maps b b", "maps d k",
    "maps k d", "maps b c", "maps b x", "order g 3", "order b 1", "order b 0", "order b 2", "log g 3 6", "log g 2 3",
    "log g 0 1", "roots g 1 3", "roots g 3 2", "roots g 3 0", "least i 4", "trace i 4 1", "trace i 4 3", "norm i 4 2",
    "recur e 0,1,1,3", "recur e 0,0", "recur e 1", "recur b 2", "", "#", "nothing", "order", 7, None, (1, [2]), True,
)


class TestIsRight(unittest.TestCase):
    def test_right_entries(self):
        for line in RIGHT_LINES:
            self.assertIs(is_right(FIELDS, (line, reply_to(FIELDS, line))), True, repr(line))

    def test_everything_changed(self):
        for line in RIGHT_LINES:
            reply = reply_to(FIELDS, line)
            for other in changes(reply):
                expected = type(other) is tuple and self.is_strictly(other, reply)
                self.assertIs(is_right(FIELDS, (line, other)), expected, (line, other))

    def is_strictly(self, value, reply):
        if type(value) is not type(reply):
            return False
        if isinstance(value, tuple):
            return len(value) == len(reply) and all(self.is_strictly(x, y) for x, y in zip(value, reply))
        return value == reply

    def test_the_reply_of_another_line(self):
        replies = {line: reply_to(FIELDS, line) for line in RIGHT_LINES[:36]}
        for line, other in product(replies, repeat=2):
            self.assertIs(is_right(FIELDS, (line, replies[other])), replies[other] == replies[line], (line, other))

    def test_other_papers_that_show_the_same(self):
        kind, text, (word, leading, parts) = reply_to(FIELDS, "factor b 1,1,0,0,1")
        ((row, k, (inner, ((u, v),))),) = parts
        f = Poly(F2, row)
        r = (variable(F2).power_modulo(4, f) - variable(F2)) % f
        for h in polys_below(F2, 3):
            pair = ((Poly(F2, u) + h * r).row, (Poly(F2, v) - h * f).row)
            reply = (kind, text, (word, leading, ((row, k, (inner, (pair,))),)))
            self.assertIs(is_right(FIELDS, ("factor b 1,1,0,0,1", reply)), True)
            self.assertIs(is_right(FIELDS, ("factor b 1,1,0,0,1,0", reply)), True)
            for wrong in (("factor", text, reply[2]), (kind, text + " ", reply[2]), (kind, "1", reply[2]), reply[:2],
                          (*reply, ()), list(reply), (kind, text, reply[2], 0)):
                self.assertIs(is_right(FIELDS, ("factor b 1,1,0,0,1", wrong)), False)
            self.assertIs(is_right(FIELDS, ("factor c 1,1,0,0,1", reply)), False)
            self.assertIs(is_right(FIELDS, ("factor x 1,1,0,0,1", reply)), False)

    def test_true_is_no_one(self):
        reply = ("order", "1", ("order", 1, ()))
        self.assertIs(is_right(FIELDS, ("order b 1", reply)), True)
        self.assertIs(is_right(FIELDS, ("order b 1", ("order", "1", ("order", True, ())))), False)
        paper = ("factors", (1,), (((((0,), (1,)), 1, ("irreducible", ()))),))
        self.assertIs(is_right(FIELDS, ("factor b 0,1", ("factors", "1 (0,1)^1", paper))), True)
        paper = ("factors", (True,), (((((0,), (1,)), 1, ("irreducible", ()))),))
        self.assertIs(is_right(FIELDS, ("factor b 0,1", ("factors", "1 (0,1)^1", paper))), False)
        paper = ("recurrence", ((True,),), (((1,),),))
        self.assertIs(is_right(FIELDS, ("recur b 1,1", ("recurrence", "1", paper))), False)
        self.assertIs(is_right(FIELDS, ("maps b b", ("maps", "0", ("maps", ((False,),))))), False)

    def test_names_that_are_not_defined_and_members_that_are_none(self):
        reply = reply_to(FIELDS, "order g 3")
        self.assertIs(is_right({}, ("order g 3", reply)), False)
        self.assertIs(is_right({"h": F7}, ("order g 3", reply)), False)
        self.assertIs(is_right({"g": F3}, ("order g 3", reply)), False)
        self.assertIs(is_right({"g": F5}, ("order g 3", reply)), False)
        self.assertIs(is_right({"g": F7}, ("order g 3", reply)), True)
        reply = reply_to(FIELDS, "maps i j")
        self.assertIs(is_right({"i": F9}, ("maps i j", reply)), False)
        self.assertIs(is_right({"i": F9, "j": F9}, ("maps i j", reply)), False)

    def test_results_without_papers_are_as_they_are(self):
        for line in ("log g 3 6", "roots g 1 3", "least i 4", "trace i 4 1", "norm i 4 1", "maps d k",
                     "field f 3 1,0,1"):
            kind, text, _ = reply_to(FIELDS, line)
            for data in (maps_paper(F4, F4), maps_paper(F4, F16), ("maps", ()), order_paper(F7, (3,)), None, [], 0):
                self.assertIs(is_right(FIELDS, (line, (kind, text, data))), False)

    def test_paper_lines_without_data(self):
        for line in ("factor b 0,0,1,1", "maps i j", "order g 3", "recur e 0,1,1,3"):
            kind, text, _ = reply_to(FIELDS, line)
            self.assertIs(is_right(FIELDS, (line, (kind, text, ()))), False)

    def test_every_other_value(self):
        right = ("order g 3", reply_to(FIELDS, "order g 3"))
        for entry in (*ODD_VALUES, (), right[:1], (*right, ()), list(right), [right], (right,), right[::-1],
                      "order g 3", ("order g 3",), ("order g 3", None), ("order g 3", "order"),
                      ("order g 3", ("order",)), ("order g 3", ("order", "6")), ("order g 3", list(right[1])),
                      (["order g 3"], right[1])):
            self.assertIs(is_right(FIELDS, entry), False, repr(entry))


def entries_of(*lines):
    """The entries with the replies, each over the fields that the lines before it leave."""
    fields, entries = {}, []
    for line in lines:
        entries.append((line, reply_to(fields, line)))
        found = defined(fields, line)
        if found is not None:
            fields[line.split()[1]] = found
    return entries


class TestFirstWrong(unittest.TestCase):
    LINES = ("order f 3", "field f 7 0,1", "order f 3", "log f 3 6", "field f 3 1,0,1", "order f 3", "maps f f",
             "field f 4 0,1", "order f 3", "field g 3 2,1,1", "maps f g", "factor f 1,0,1", "#", "", 7, "what",
             "recur g 1,2")

    def test_all_right(self):
        self.assertEqual(first_wrong([]), -1)
        self.assertEqual(first_wrong(entries_of(*self.LINES)), -1)
        for count in range(len(self.LINES)):
            self.assertEqual(first_wrong(entries_of(*self.LINES[:count])), -1)

    def test_a_wrong_entry_at_each_place(self):
        entries = entries_of(*self.LINES)
        for at, (line, reply) in enumerate(entries):
            for wrong in (None, (line,), (line, None), (line, (*reply, 0)),
                          (line, (reply[0], reply[1] + "1", reply[2])), ("x" + str(line), ("done", "", ())),
                          [line, reply], F4, (F4, F4), variable(F4)):
                self.assertEqual(first_wrong(entries[:at] + [wrong] + entries[at + 1:]), at)
                self.assertEqual(first_wrong(entries[:at] + [wrong, wrong] + entries[at:]), at)

    def test_fields_that_are_defined_again(self):
        entries = entries_of("field f 7 0,1", "order f 3", "field f 3 1,0,1", "order f 3")
        self.assertEqual([entry[1][1] for entry in entries], ["7^1", "6", "3^2", "4"])
        self.assertEqual(first_wrong(entries), -1)
        self.assertEqual(first_wrong([entries[0], entries[3]]), 1)
        self.assertEqual(first_wrong([entries[2], entries[1]]), 1)
        self.assertEqual(first_wrong([entries[0], entries[2], entries[3], entries[1]]), 3)
        self.assertEqual(first_wrong(entries[1:]), 0)

    def test_a_refused_definition_leaves_the_field(self):
        lines = ("field f 7 0,1", "field f 7 7,1", "order f 3", "field f 401 0,1", "order f 3", "field F 3 0,1",
                 "order f 3")
        entries = entries_of(*lines)
        self.assertEqual(entries[-1][1][1], "6")
        self.assertEqual(first_wrong(entries), -1)

    def test_lists_of_any_values(self):
        for value in (*ODD_VALUES, F4, variable(F4), Recurrence(F4, ()), ((), ()), ([], [])):
            self.assertEqual(first_wrong([value]), 0)
            self.assertEqual(first_wrong([("#", ("done", "", ())), value]), 1)

    def test_the_list_stays(self):
        entries = entries_of(*self.LINES)
        first_wrong(entries)
        self.assertEqual(entries, entries_of(*self.LINES))


if __name__ == "__main__":
    unittest.main()

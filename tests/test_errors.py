"""The classes of fieldmaps.errors, and what an argument of them leaves behind."""

import unittest

from fieldmaps.errors import Fault, Malformed, NoText, Refused, ZeroDivisor

FOUR_KINDS = (ZeroDivisor, Malformed, Refused, NoText)


class TestErrors(unittest.TestCase):
    def test_fault_derives_from_value_error(self):
        self.assertEqual(Fault.__bases__, (ValueError,))

    def test_the_four_derive_from_fault(self):
        for kind in FOUR_KINDS:
            self.assertEqual(kind.__bases__, (Fault,), kind)

    def test_none_of_the_four_is_a_subclass_of_another(self):
        for kind in FOUR_KINDS:
            for other in FOUR_KINDS:
                self.assertEqual(issubclass(kind, other), kind is other, (kind, other))

    def test_reason_of_refused(self):
        error = Refused("large")
        self.assertEqual(error.reason, "large")
        self.assertEqual(Refused(reason="size").reason, "size")

    def test_at_of_no_text(self):
        error = NoText(0)
        self.assertEqual(error.at, 0)
        self.assertIs(type(error.at), int)
        self.assertEqual(NoText(at=17).at, 17)

    def test_they_are_raised_and_caught_as_faults(self):
        for error in (ZeroDivisor("a"), Malformed("b"), Refused("c"), NoText(3), Fault("d")):
            with self.assertRaises(Fault):
                raise error
            with self.assertRaises(ValueError):
                raise error

    def test_each_has_a_text(self):
        for error in (ZeroDivisor(), Malformed(), ZeroDivisor("a"), Malformed("b"), Refused("c"), NoText(3)):
            self.assertIsInstance(str(error), str)

    def test_attributes_belong_to_one_object(self):
        first, second = Refused("large"), Refused("short")
        self.assertEqual((first.reason, second.reason), ("large", "short"))


if __name__ == "__main__":
    unittest.main()

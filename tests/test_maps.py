"""Points 4.1 and 4.2 and the interface of fieldmaps.maps."""

import unittest
from itertools import product

from fieldmaps.errors import Malformed, Refused
from fieldmaps.field import Field
from fieldmaps.maps import FieldMap, all_maps, isomorphisms, power_map
from fieldmaps.poly import Poly, variable
from tests.plain import F2, F3, F4, F5, F7, F8, F9, F16, F25, F27, F49, F81, F256, F397, ODD_VALUES, poly

# Fields of several sizes, two or three of some sizes with unlike moduli.
OTHER2 = Field(2, (1, 1))
OTHER8 = Field(2, (1, 0, 1, 1))
OTHER9 = Field(3, (2, 1, 1))
THIRD9 = Field(3, (2, 2, 1))
OTHER16 = Field(2, (1, 1, 0, 0, 1))
F64 = Field(2, (1, 1, 0, 0, 0, 0, 1))
OTHER27 = Field(3, (1, 2, 1, 1))
FIELDS = (F2, OTHER2, F3, F4, F5, F7, F8, OTHER8, F9, OTHER9, THIRD9, F16, OTHER16, F25, F27, OTHER27, F49, F64, F81)

# Pairs of fields with maps between them that are not only those of a field to itself.
MAPPED = (
    (F2, OTHER2), (F2, F4), (OTHER2, F8), (F4, F16), (F4, OTHER16), (F4, F64), (F8, OTHER8), (OTHER8, F64), (F8, F64),
    (F16, OTHER16), (F3, F9), (F9, OTHER9), (OTHER9, THIRD9), (F3, F27), (F27, OTHER27), (F9, F81), (THIRD9, F81),
    (F4, F4), (F9, F9), (F16, F16), (F27, F27), (F5, F25), (F7, F49),
)


def value_of_row(field, row, s):
    """The sum of the integers of a row times the powers of a member."""
    total = field.zero()
    for k, item in enumerate(row):
        total = field.add(total, field.multiply(field.integer(item), field.power(s, k)))
    return total


def roots_of_modulus(a, b):
    """The roots in b of the modulus of a, for fields of one prime."""
    return [s for s in b.members() if value_of_row(b, a.modulus, s) == b.zero()]


class TestMaking(unittest.TestCase):
    def malformed(self, *arguments):
        with self.assertRaises(Malformed, msg=arguments):
            FieldMap(*arguments)

    def test_every_member_tried_as_image(self):
        for a, b in product(FIELDS, repeat=2):
            good = roots_of_modulus(a, b) if a.p == b.p else []
            for s in b.members():
                if s in good:
                    f = FieldMap(a, b, s)
                    self.assertEqual((f.source, f.target, f.image), (a, b, s))
                else:
                    self.malformed(a, b, s)

    def test_values_that_are_no_field(self):
        for value in (*ODD_VALUES, variable(F2), power_map(F2), (2, (0, 1))):
            self.malformed(value, F2, (0,))
            self.malformed(F2, value, (0,))
            self.malformed(value, value, (0,))

    def test_values_that_are_no_member(self):
        for value in (*ODD_VALUES, (2, 0), (0, -1), (1,), (True, 0), (0, True), [0, 1], F4, variable(F4)):
            if value != (0, 1):
                self.malformed(F4, F4, value)
                self.malformed(F2, F4, value)
        self.malformed(F4, F16, (0, 1))
        self.malformed(F2, F2, 0)
        self.malformed(F2, F2, (False,))

    def test_unlike_primes(self):
        # The generators are 0, and 0 is a root of the modulus t whatever the prime.
        self.malformed(F2, F3, (0,))
        self.malformed(F3, F5, (0,))
        self.malformed(F397, F5, (0,))
        self.malformed(F5, F397, (0,))

    def test_no_root(self):
        self.malformed(F4, F4, (1, 0))
        self.malformed(F4, F4, (0, 0))
        self.malformed(F8, OTHER8, (0, 1, 0))
        self.malformed(F2, OTHER2, (1,))
        self.assertEqual(FieldMap(F2, OTHER2, (0,)).image, (0,))


class TestValues(unittest.TestCase):
    def test_images_of_all_members(self):
        for a, b in MAPPED:
            for s in roots_of_modulus(a, b):
                f = FieldMap(a, b, s)
                self.assertEqual(f(a.generator()), s)
                for x in a.members():
                    self.assertEqual(f(x), value_of_row(b, x, s))

    def test_sums_products_and_one(self):
        for a, b in MAPPED:
            for f in all_maps(a, b):
                self.assertEqual(f(a.one()), b.one())
                for x, y in product(a.members(), repeat=2):
                    self.assertEqual(f(a.add(x, y)), b.add(f(x), f(y)))
                    self.assertEqual(f(a.multiply(x, y)), b.multiply(f(x), f(y)))

    def test_integers_and_unlike_images(self):
        for a, b in MAPPED:
            for f in all_maps(a, b):
                for k in range(-3, a.p + 3):
                    self.assertEqual(f(a.integer(k)), b.integer(k))
                self.assertEqual(len({f(x) for x in a.members()}), a.q)

    def test_values_that_are_no_member_of_the_source(self):
        f = all_maps(F4, F16)[0]
        for value in (*ODD_VALUES, (0, 1, 0, 0), (2, 0), (1,), (True, 0), [0, 1], F4, variable(F4), f):
            if value != (0, 1):
                with self.assertRaises(Malformed, msg=value):
                    f(value)
        self.assertEqual(f((0, 1)), f.image)


class TestEquality(unittest.TestCase):
    def test_equal_and_unequal_maps(self):
        maps = [f for a, b in MAPPED for f in all_maps(a, b)]
        for i, f in enumerate(maps):
            for j, g in enumerate(maps):
                self.assertIs(f == g, i == j)

    def test_fields_made_anew(self):
        f = FieldMap(Field(2, [1, 1, 1]), Field(2, (1, 1, 1)), (1, 1))
        self.assertTrue(f == FieldMap(F4, F4, (1, 1)))
        self.assertFalse(f != FieldMap(F4, F4, (1, 1)))
        self.assertTrue(f != FieldMap(F4, F4, (0, 1)))

    def test_equal_images_and_one_unequal_field(self):
        self.assertIs(FieldMap(F2, F2, (0,)) == FieldMap(F2, OTHER2, (0,)), False)
        self.assertIs(FieldMap(OTHER2, F2, (1,)) == FieldMap(OTHER2, OTHER2, (1,)), False)
        for a in (F2, OTHER2):
            for image in ((1, 0), (0, 0)):
                if value_of_row(F4, a.modulus, image) == F4.zero():
                    f = FieldMap(a, F4, image)
                    self.assertIs(f == FieldMap(Field(2, a.modulus), F4, image), True)
        # Both moduli of degree one over the field of two send their generators to integers, unlike ones.
        self.assertIs(FieldMap(F2, F4, (0, 0)) == FieldMap(OTHER2, F4, (1, 0)), False)

    def test_other_values(self):
        f = power_map(F4)
        for value in (*ODD_VALUES, F4, f.image, (F4, F4, f.image), variable(F4)):
            self.assertIs(f == value, False, value)
            self.assertTrue(f != value)


class TestAfter(unittest.TestCase):
    def test_every_member(self):
        for first, second in (((F4, F16), (F16, OTHER16)), ((F2, F8), (F8, F64)), ((F9, OTHER9), (OTHER9, F81)),
                              ((F16, F16), (F16, OTHER16)), ((F8, OTHER8), (OTHER8, F8))):
            for g in all_maps(*first):
                for f in all_maps(*second):
                    h = f.after(g)
                    self.assertEqual((h.source, h.target), (first[0], second[1]))
                    for x in first[0].members():
                        self.assertEqual(h(x), f(g(x)))

    def test_maps_that_do_not_fit(self):
        inner, outer = all_maps(F4, F16)[0], all_maps(F16, OTHER16)[0]
        for f, g in ((inner, outer), (inner, inner), (outer, outer), (outer, power_map(OTHER16)),
                     (power_map(F9), power_map(OTHER9)), (power_map(F2), power_map(OTHER2)),
                     (power_map(F2), power_map(F3))):
            with self.assertRaises(Malformed):
                f.after(g)
        self.assertEqual(outer.after(inner).source, F4)

    def test_the_arguments_stay(self):
        f, g = all_maps(F16, OTHER16)[1], all_maps(F4, F16)[1]
        before = f.image, g.image
        self.assertEqual(f.after(g), f.after(g))
        self.assertEqual((f.image, g.image), before)


class TestInverse(unittest.TestCase):
    def test_both_sides(self):
        for a, b in MAPPED:
            if a.q == b.q:
                for f in all_maps(a, b):
                    back = f.inverse()
                    self.assertEqual((back.source, back.target), (b, a))
                    self.assertEqual(f.after(back), power_map(b, 0))
                    self.assertEqual(back.after(f), power_map(a, 0))
                    self.assertEqual([back(f(x)) for x in a.members()], list(a.members()))
                    self.assertEqual([f(back(y)) for y in b.members()], list(b.members()))

    def test_unlike_sizes(self):
        for a, b in MAPPED:
            if a.q != b.q:
                for f in all_maps(a, b):
                    with self.assertRaises(Refused) as caught:
                        f.inverse()
                    self.assertEqual(caught.exception.reason, "size")


class TestOnPoly(unittest.TestCase):
    def test_images_of_the_coefficients(self):
        for a, b in MAPPED:
            for f in all_maps(a, b):
                for numbers in ((), (1,), (0, 1), (a.q - 1, 0, 1, a.q // 2, a.q - 1)):
                    p = poly(a, *numbers)
                    image = f.on_poly(p)
                    self.assertEqual(image.field, b)
                    self.assertEqual(image.row, tuple(f(item) for item in p.row))

    def test_values_and_products_go_along(self):
        f = all_maps(F9, F81)[1]
        p, g = poly(F9, 3, 7, 1), poly(F9, 5, 0, 4, 2)
        self.assertEqual(f.on_poly(p * g), f.on_poly(p) * f.on_poly(g))
        for x in F9.members():
            self.assertEqual(f.on_poly(p)(f(x)), f(p(x)))

    def test_the_modulus_has_the_image_as_a_root(self):
        for a, b in MAPPED:
            modulus = Poly(a, [a.integer(item) for item in a.modulus])
            for f in all_maps(a, b):
                self.assertEqual(f.on_poly(modulus)(f.image), b.zero())

    def test_a_polynomial_over_another_field(self):
        f = all_maps(F4, F16)[0]
        for p in (variable(F16), variable(F2), poly(F8, 1), Poly(F16, ()), Poly(F9, ()), poly(F9, 1, 1)):
            with self.assertRaises(Malformed):
                f.on_poly(p)


class TestAllMaps(unittest.TestCase):
    def test_how_many_and_in_which_order(self):
        for a, b in product(FIELDS, repeat=2):
            maps = all_maps(a, b)
            self.assertIsInstance(maps, tuple)
            self.assertEqual(len(maps), a.n if a.p == b.p and b.n % a.n == 0 else 0)
            numbers = [b.number(f.image) for f in maps]
            self.assertEqual(numbers, sorted(set(numbers)))
            for f in maps:
                self.assertIsInstance(f, FieldMap)
                self.assertEqual((f.source, f.target), (a, b))

    def test_they_are_all_roots(self):
        for a, b in product(FIELDS, repeat=2):
            if a.p == b.p:
                self.assertEqual([f.image for f in all_maps(a, b)], roots_of_modulus(a, b))

    def test_examples(self):
        self.assertEqual([f.image for f in all_maps(F4, F4)], [(0, 1), (1, 1)])
        self.assertEqual([f.image for f in all_maps(F7, F7)], [(3,)])
        self.assertEqual(len(all_maps(F256, F256)), 8)
        self.assertEqual(len(all_maps(F16, F256)), 4)
        self.assertEqual(all_maps(F8, F256), ())
        self.assertEqual(all_maps(F256, F16), ())
        self.assertEqual(all_maps(F2, F397), ())


class TestIsomorphisms(unittest.TestCase):
    def test_all_pairs_of_fields(self):
        for a, b in product(FIELDS, repeat=2):
            expected = tuple(f.image for f in all_maps(a, b)) if a.q == b.q else ()
            self.assertEqual(isomorphisms(a, b), expected)
            self.assertEqual(len(expected), a.n if a.q == b.q else 0)

    def test_unlike_sizes(self):
        self.assertEqual(len(all_maps(F4, F16)), 2)
        self.assertEqual(isomorphisms(F4, F16), ())
        self.assertEqual(isomorphisms(F2, F4), ())
        self.assertEqual(isomorphisms(F2, F3), ())

    def test_examples(self):
        self.assertEqual(isomorphisms(F4, F4), ((0, 1), (1, 1)))
        self.assertEqual(isomorphisms(F9, F9), ((0, 1), (0, 2)))
        self.assertEqual(isomorphisms(F2, OTHER2), ((0,),))


class TestPowerMap(unittest.TestCase):
    def test_every_member(self):
        for field in FIELDS:
            for k in (0, 1, 2, field.n - 1, field.n, field.n + 1, 2 * field.n + 3):
                f = power_map(field, k)
                self.assertEqual((f.source, f.target), (field, field))
                for x in field.members():
                    self.assertEqual(f(x), field.power(x, field.p**k))

    def test_the_default_is_one(self):
        for field in FIELDS:
            self.assertEqual(power_map(field), power_map(field, 1))
            self.assertEqual(power_map(field).image, field.power(field.generator(), field.p))

    def test_the_degree_and_beyond(self):
        for field in FIELDS:
            self.assertEqual(power_map(field, 0).image, field.generator())
            self.assertEqual(power_map(field, field.n), power_map(field, 0))
            self.assertEqual(power_map(field, field.n * 10**20 + 1), power_map(field))

    def test_they_are_all_maps_of_a_field_to_itself(self):
        for field in FIELDS:
            images = sorted((power_map(field, k).image for k in range(field.n)), key=field.number)
            self.assertEqual(tuple(images), isomorphisms(field, field))


if __name__ == "__main__":
    unittest.main()

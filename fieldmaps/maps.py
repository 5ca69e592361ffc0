"""Maps between finite fields that keep sums and products and send one to one."""

from fieldmaps.errors import Malformed, Refused
from fieldmaps.field import Field
from fieldmaps.poly import Poly


class FieldMap:
    """The map from a field to a field that sends the generator of the first one to the image."""

    def __init__(self, source, target, image):
        check_map(source, target, image)
        self.source = source
        self.target = target
        self.image = image

    def __eq__(self, other):
        return (
            isinstance(other, FieldMap)
            and self.source == other.source
            and self.target == other.target
            and self.image == other.image
        )

    def __call__(self, a):
        if not self.source.is_member(a):
            raise Malformed("the value is no member of the source")
        return value_of_row(self.target, a, self.image)

    def after(self, g):
        """The map that sends a to f(g(a)), f this one; raises Malformed if g does not lead to its source."""
        if g.target != self.source:
            raise Malformed("the target of the first map is not the source of the second one")
        return FieldMap(g.source, self.target, value_of_row(self.target, g.image, self.image))

    def inverse(self):
        """The map back; raises Refused("size") if the fields have unlike sizes."""
        if self.source.q != self.target.q:
            raise Refused("size")
        goal = self.target.generator()
        found = [a for a in self.source.members() if value_of_row(self.target, a, self.image) == goal]
        return FieldMap(self.target, self.source, found[0])

    def on_poly(self, p):
        """The polynomial with the images of the coefficients; raises Malformed if p is not over the source."""
        if p.field != self.source:
            raise Malformed("the polynomial is not over the source")
        return Poly(self.target, [value_of_row(self.target, item, self.image) for item in p.row])


def check_map(source, target, image):
    """Raises Malformed if there is no field map from the source to the target with this image of the generator."""
    if not isinstance(source, Field) or not isinstance(target, Field):
        raise Malformed("a field map goes from a field to a field")
    if not target.is_member(image):
        raise Malformed("the image is no member of the target")
    if source.p != target.p or value_of_row(target, source.modulus, image) != target.zero():
        raise Malformed("the image is no root of the modulus of the source")


def value_of_row(field, row, s):
    """The sum of the integers of the row times 1, s, s^2, .. for a member s of the field."""
    value = field.zero()
    for item in reversed(row):
        value = field.add(field.multiply(value, s), field.integer(item))
    return value


def all_maps(a, b):
    """All field maps from a to b, ascending by the numbers of the images of the generator."""
    if a.p != b.p:
        return ()
    images = [s for s in b.members() if value_of_row(b, a.modulus, s) == b.zero()]
    return tuple([FieldMap(a, b, s) for s in images])


def isomorphisms(a, b):
    """The images of the generator under all isomorphisms from a to b, ascending; none for unlike sizes."""
    if a.q != b.q:
        return ()
    return tuple([f.image for f in all_maps(a, b)])


def power_map(field, k=1):
    """The map from the field to itself that sends each member to its power p^k, for k from 0 on."""
    return FieldMap(field, field, field.frobenius(field.generator(), k))

"""The replies of the console to its lines, and whether the entries of a list have the right ones."""

from fieldmaps.checker import takes_factors, takes_maps, takes_order, takes_recurrence
from fieldmaps.conjugates import least_row, norm, trace
from fieldmaps.errors import Fault, Malformed, NoText, Refused, ZeroDivisor
from fieldmaps.field import Field
from fieldmaps.maps import all_maps
from fieldmaps.orders import logarithm, roots_of
from fieldmaps.papers import factors_paper, maps_paper, order_paper, recurrence_paper
from fieldmaps.poly import Poly
from fieldmaps.sheet import form_of, read_line, row_text


def reply_to(fields, line):
    """The reply to a line, for every value, over the dict of the defined fields."""
    try:
        return carried_out(fields, read_line(line))
    except NoText:
        return ("error", "text", ())
    except Malformed:
        return ("error", "malformed", ())
    except ZeroDivisor:
        return ("error", "zero", ())
    except Refused as refusal:
        return ("error", f"refused {refusal.reason}", ())


def carried_out(fields, command):
    """The reply to a command; raises what 8.3 says."""
    word = command[0]
    if word == "empty":
        return ("done", "", ())
    if word == "field":
        field = made_field(command)
        return ("field", f"{field.p}^{field.n}", ())
    values = values_of(fields, command)
    action = ACTIONS[word]
    return action(*values)


def made_field(command):
    """The field of a `field` command; raises Malformed or Refused if there is none."""
    return Field(command[2], command[3])


def values_of(fields, command):
    """The fields, members and numbers of a command; raises Refused("name"), and behind it Refused("member")."""
    meant = list(zip(form_of(command[0]), command[1:]))
    # In every command the names stand ahead of the numbers.
    named = [field_named(fields, told) for meaning, told in meant if meaning == "field"]
    return named + [value_in(named[0], meaning, told) for meaning, told in meant if meaning != "field"]


def field_named(fields, name):
    """The field with the name; raises Refused("name") if it is not defined."""
    if name not in fields:
        raise Refused("name")
    return fields[name]


def value_in(field, meaning, told):
    """The member, the tuple of members or the number from 1 on that is told; raises Refused("member")."""
    if meaning == "member":
        return member_numbered(field, told)
    if meaning == "row":
        return tuple([member_numbered(field, number) for number in told])
    if told == 0:
        raise Refused("member")
    return told


def member_numbered(field, number):
    """The member with the number; raises Refused("member") if there is none."""
    if number >= field.q:
        raise Refused("member")
    return field.member(number)


def factor_reply(field, row):
    """The reply to `factor`."""
    paper = factors_paper(Poly(field, row))
    parts = [str(field.number(paper[1]))]
    for factor, k, _ in paper[2]:
        numbers = row_text(numbers_of(field, factor))
        parts.append(f"({numbers})^{k}")
    return ("factors", " ".join(parts), paper)


def maps_reply(a, b):
    """The reply to `maps`."""
    text = row_text(numbers_of(b, [f.image for f in all_maps(a, b)]))
    return ("maps", text, maps_paper(a, b) if a.q == b.q else ())


def order_reply(field, a):
    """The reply to `order`."""
    paper = order_paper(field, a)
    return ("order", str(paper[1]), paper)


def log_reply(field, b, a):
    """The reply to `log`."""
    found = logarithm(field, b, a)
    return ("log", "none" if found is None else str(found), ())


def roots_reply(field, a, k):
    """The reply to `roots`."""
    return ("roots", row_text(numbers_of(field, roots_of(field, a, k))), ())


def least_reply(field, a):
    """The reply to `least`."""
    return ("row", row_text(least_row(field, a)), ())


def trace_reply(field, a, d):
    """The reply to `trace`."""
    return ("member", str(field.number(trace(field, a, d))), ())


def norm_reply(field, a, d):
    """The reply to `norm`."""
    return ("member", str(field.number(norm(field, a, d))), ())


def recur_reply(field, terms):
    """The reply to `recur`."""
    paper = recurrence_paper(field, terms)
    return ("recurrence", row_text(numbers_of(field, paper[1])), paper)


def numbers_of(field, row):
    """The list of the numbers of the members."""
    return [field.number(a) for a in row]


# What replies to each command over defined fields.
ACTIONS = {
    "factor": factor_reply,
    "maps": maps_reply,
    "order": order_reply,
    "log": log_reply,
    "roots": roots_reply,
    "least": least_reply,
    "trace": trace_reply,
    "norm": norm_reply,
    "recur": recur_reply,
}


def defined(fields, line):
    """The field that a `field` line defines; None for every other value and if the line is refused."""
    try:
        command = read_line(line)
        return made_field(command) if command[0] == "field" else None
    except Fault:
        return None


def fields_behind(fields, line):
    """A new dict of the fields that are defined behind the line."""
    behind = dict(fields)
    field = defined(fields, line)
    if field is not None:
        behind[read_line(line)[1]] = field
    return behind


def is_right(fields, entry):
    """True if the value is a tuple of a line and of a right reply to it over the fields."""
    if not isinstance(entry, tuple) or len(entry) != 2:
        return False
    line = entry[0]
    reply = entry[1]
    expected = reply_to(fields, line)
    if expected[2] == ():
        return reply == expected
    # The checker takes no papers but those of the one right result, and its text is the expected one.
    if not isinstance(reply, tuple) or len(reply) != 3 or reply[:2] != expected[:2]:
        return False
    return is_taken(fields, read_line(line), reply[2])


def is_taken(fields, command, paper):
    """True if the checker takes the paper for what the command asks."""
    first, second = values_of(fields, command)
    if command[0] == "factor":
        return takes_factors(Poly(first, second), paper)
    if command[0] == "maps":
        return takes_maps(first, second, paper)
    if command[0] == "order":
        return takes_order(first, second, paper)
    return takes_recurrence(first, second, paper)


def first_wrong(entries):
    """The index of the first item of a list that is no right entry behind the lines before it, or -1."""
    fields = {}
    for at, entry in enumerate(entries):
        if not is_right(fields, entry):
            return at
        fields = fields_behind(fields, entry[0])
    return -1

"""The lines of the console and the commands that they give."""

from fieldmaps.errors import NoText

# The most characters of a line, letters of a name, digits of a number and numbers of a row.
LONGEST_LINE = 2000
LONGEST_NAME = 8
MOST_DIGITS = 4
LONGEST_ROW = 30

# The number of the percent sign, which a line must not have and the strings of this program must not either.
PERCENT = 37

# What the words behind the first one stand for, for each command: a "field" is the name of one that is defined,
# a "member" the number of one, a "count" a number from 1 on, and a "row" is one of numbers of members.
FORMS = {
    "field": ("name", "prime", "modulus"),
    "factor": ("field", "row"),
    "maps": ("field", "field"),
    "order": ("field", "member"),
    "log": ("field", "member", "member"),
    "roots": ("field", "member", "count"),
    "least": ("field", "member"),
    "trace": ("field", "member", "count"),
    "norm": ("field", "member", "count"),
    "recur": ("field", "row"),
}


def form_of(word):
    """What the words of a command stand for that follow its first one."""
    return FORMS[word]


def read_line(line):
    """The command of the line, a tuple of its first word and what follows; raises NoText(0), for every value."""
    if not is_line(line):
        raise NoText(0)
    words = line.split()
    if not words or line[0] == "#":
        return ("empty",)
    if words[0] not in FORMS:
        raise NoText(0)
    form = form_of(words[0])
    if len(words) != len(form) + 1:
        raise NoText(0)
    return (words[0], *[read_word(meaning, word) for meaning, word in zip(form, words[1:])])


def is_line(value):
    """True if the value is a string of characters that a line may have, and not too long."""
    if not isinstance(value, str) or len(value) > LONGEST_LINE:
        return False
    return all([" " <= sign <= "~" and ord(sign) != PERCENT for sign in value])


def read_word(meaning, word):
    """The name, number or row that the word is; raises NoText(0) if it is none."""
    if meaning in ("name", "field"):
        return read_name(word)
    if meaning in ("modulus", "row"):
        return read_row(word)
    return read_number(word)


def read_name(word):
    """The name that the word is; raises NoText(0) if it is none."""
    if len(word) > LONGEST_NAME or not all(["a" <= sign <= "z" for sign in word]):
        raise NoText(0)
    return word


def read_number(word):
    """The number with these digits; raises NoText(0) if the text, which may be empty, is no number."""
    if not 1 <= len(word) <= MOST_DIGITS or not all(["0" <= sign <= "9" for sign in word]):
        raise NoText(0)
    if word[0] == "0" and len(word) > 1:
        raise NoText(0)
    return int(word)


def read_row(word):
    """The tuple of the numbers that the word joins by commas; raises NoText(0) if it is no such row."""
    parts = word.split(",")
    if len(parts) > LONGEST_ROW:
        raise NoText(0)
    return tuple([read_number(part) for part in parts])


def row_text(numbers):
    """The numbers joined by commas."""
    return ",".join([str(number) for number in numbers])

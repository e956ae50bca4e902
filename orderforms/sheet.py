"""Lines of a worksheet, read as commands."""

from orderforms.errors import NoText
from orderforms.order import DIGITS, read_order

MOST_SIGNS = 2000
MOST_LETTERS = 8

# The code of the sign that no line has, although it stands between the space and the tilde.
BARRED_CODE = 37

# What follows the first word of a command, by this word; a `let` line has a form of its own.
FORMS = {
    "chain": ("name", "number"),
    "antichain": ("name", "number"),
    "parallel": ("name", "name", "name"),
    "ordinal": ("name", "name", "name"),
    "product": ("name", "name", "name"),
    "common": ("name", "name", "name"),
    "turned": ("name", "name"),
    "show": ("name",),
    "form": ("name",),
    "width": ("name",),
    "length": ("name",),
    "dimension": ("name",),
    "alike": ("name", "name"),
    "linear": ("name",),
    "group": ("name",),
    "moebius": ("name", "number", "number"),
}


def read_line(line):
    """Return the command of a line as a tuple; raise NoText(0) for every value that has none."""
    if not is_line(line):
        raise NoText(0)
    words = [word for word in line.split(" ") if word != ""]
    if len(words) == 0 or line[0] == "#":
        return ("empty",)
    if words[0] == "let":
        return read_let(words, line)
    return read_command(words)


def is_line(value):
    """Return True if the value is a line, for every value."""
    if not isinstance(value, str) or len(value) > MOST_SIGNS:
        return False
    return all([" " <= sign <= "~" and ord(sign) != BARRED_CODE for sign in value])


def read_let(words, line):
    """Return the command of a `let` line."""
    if len(words) < 3 or not is_name(words[1]) or words[2] != "=":
        raise NoText(0)
    # The first two words hold no sign of equality, so the first one in the line is the third word.
    head, sign, text = line.partition("=")
    return ("let", words[1], read_order(text.strip(" ")))


def read_command(words):
    """Return the command of the words of a line that is no `let` line."""
    kinds = FORMS.get(words[0], ())
    # No command is its first word alone, so a first word that is no command has no form here.
    if len(kinds) == 0 or len(words) != len(kinds) + 1:
        raise NoText(0)
    parts = [read_part(kind, word) for kind, word in zip(kinds, words[1:])]
    return (words[0], *parts)


def read_part(kind, word):
    """Return what a word behind the first one stands for, a name or a number."""
    if kind == "name" and is_name(word):
        return word
    if kind == "number" and is_number(word):
        return int(word)
    raise NoText(0)


def is_name(word):
    """Return True if the string is a name."""
    return is_small_word(word, MOST_LETTERS)


def is_small_word(value, most):
    """Return True if the value is a string of 1 to `most` small letters, for every value."""
    return isinstance(value, str) and 1 <= len(value) <= most and all(["a" <= sign <= "z" for sign in value])


def is_number(word):
    """Return True if the string is an integer from 0 to 99 in digits, without leading zeros."""
    return len(word) <= 2 and is_digits(word)


def is_digits(text):
    """Return True if the string is an integer from 0 on in digits, without leading zeros."""
    if len(text) == 0 or not all([sign in DIGITS for sign in text]):
        return False
    return text == "0" or text[0] != "0"

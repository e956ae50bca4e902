"""The written form of logs: plain data, and lists of entries."""

from orderforms.bits import is_integer
from orderforms.errors import Malformed, NoText
from orderforms.replies import Reply, defined, is_right
from orderforms.sheet import is_digits, is_small_word

MOST_LETTERS = 12
MOST_DEEP = 20

# Python turns integers of some thousand digits no more into strings, or back, so this is done in blocks.
BLOCK_DIGITS = 64

# What the three lines of an entry begin with.
MARKS = ("> ", "= ", "# ")


def written(data):
    """Return the written form of plain data; raise Malformed for every other value."""
    return written_within(data, MOST_DEEP)


def written_within(data, deep):
    """Return the written form of plain data in which tuples are nested at most so deep."""
    if is_word(data):
        return data
    if is_integer(data):
        return digits_of(data)
    if not isinstance(data, tuple) or deep == 0:
        raise Malformed("the value is no plain data")
    return "(" + " ".join([written_within(item, deep - 1) for item in data]) + ")"


def is_word(value):
    """Return True if the value is a word of plain data, for every value."""
    return is_small_word(value, MOST_LETTERS)


def digits_of(k):
    """Return the decimal digits of an integer, with a minus sign in front if it is negative."""
    block = 10 ** 64
    rest = abs(k)
    pieces = []
    while rest >= block:
        rest, low = divmod(rest, block)
        pieces.append(str(low).zfill(BLOCK_DIGITS))
    pieces.append(str(rest))
    if k < 0:
        pieces.append("-")
    return "".join(reversed(pieces))


def integer_of(digits):
    """Return the integer with these decimal digits, at least one."""
    block = 10 ** 64
    first = len(digits) % BLOCK_DIGITS
    value = int("0" + digits[:first])
    for at in range(first, len(digits), BLOCK_DIGITS):
        value = value * block + int(digits[at:at + BLOCK_DIGITS])
    return value


def read_data(text):
    """Return the plain data with this written form; raise NoText(0) if there are none, for every value."""
    if not isinstance(text, str):
        raise NoText(0)
    data, end = read_value(text, 0, MOST_DEEP)
    if end != len(text):
        raise NoText(0)
    return data


def read_value(text, at, deep):
    """Return the data whose written form begins at a place, nested at most so deep, and the place behind it."""
    if text[at:at + 1] == "(":
        return read_tuple(text, at, deep)
    end = at
    while end < len(text) and text[end] not in " ()":
        end = end + 1
    return (read_single(text[at:end]), end)


def read_tuple(text, at, deep):
    """Return the tuple whose written form begins at a place, nested at most so deep, and the place behind it."""
    if deep == 0:
        raise NoText(0)
    if text[at + 1:at + 2] == ")":
        return ((), at + 2)
    items = []
    sign = " "
    while sign == " ":
        item, at = read_value(text, at + 1, deep - 1)
        items.append(item)
        sign = text[at:at + 1]
    if sign != ")":
        raise NoText(0)
    return (tuple(items), at + 1)


def read_single(text):
    """Return the word or the integer with this written form."""
    if is_word(text):
        return text
    if is_digits(text):
        return integer_of(text)
    if text[:1] == "-" and is_digits(text[1:]) and text != "-0":
        return -integer_of(text[1:])
    raise NoText(0)


def write_log(entries):
    """Return the written form of a list of entries; raise Malformed if an item has none."""
    return "".join([written_entry(entry) for entry in entries])


def written_entry(entry):
    """Return the three lines of an entry."""
    if not isinstance(entry, tuple) or len(entry) != 2:
        raise Malformed("an item is no pair")
    line, reply = entry
    if not is_one_line(line) or not isinstance(reply, Reply):
        raise Malformed("an item is no pair of a string without a line feed and a reply")
    if not is_word(reply.kind) or not is_one_line(reply.text) or not isinstance(reply.data, tuple):
        raise Malformed("a reply has no written form")
    return f"> {line}\n= {reply.kind} {reply.text}\n# {written(reply.data)}\n"


def is_one_line(value):
    """Return True if the value is a string without a line feed, for every value."""
    return isinstance(value, str) and "\n" not in value


def read_log(text):
    """Return the list of entries with this written form; raise NoText if there is none, for every value."""
    if not isinstance(text, str):
        raise NoText(0)
    *lines, rest = text.split("\n")
    parts = [read_part(line, at) for at, line in enumerate(lines)]
    if rest != "" or len(parts) % len(MARKS) != 0:
        raise NoText(len(parts))
    return [
        (parts[at], Reply(parts[at + 1][0], parts[at + 1][1], parts[at + 2]))
        for at in range(0, len(parts), len(MARKS))
    ]


def read_part(line, at):
    """Return what the line with this number of a log stands for; raise NoText(at) if it does not have its form."""
    place = at % len(MARKS)
    if not line.startswith(MARKS[place]):
        raise NoText(at)
    text = line[2:]
    if place == 0:
        return text
    if place == 1:
        return read_head(text, at)
    return read_whole_data(text, at)


def read_head(text, at):
    """Return the kind and the text of a reply from its line in a log."""
    kind, sign, rest = text.partition(" ")
    if sign == "" or not is_word(kind):
        raise NoText(at)
    return (kind, rest)


def read_whole_data(text, at):
    """Return the data of a reply, a tuple, from its line in a log."""
    if text[:1] != "(":
        raise NoText(at)
    try:
        return read_data(text)
    except NoText:
        raise NoText(at) from None


def first_wrong(entries):
    """Return the index of the first entry that is not right, beginning without definitions, or -1."""
    names = {}
    for at, entry in enumerate(entries):
        if not is_right(names, entry):
            return at
        made = defined(names, entry[0])
        if made is not None:
            names[made[0]] = made[1]
    return -1

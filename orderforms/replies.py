"""Replies to lines, and whether an entry of a log is right."""

from orderforms.build import antichain, chain, common_part, ordinal, parallel, product
from orderforms.checker import MOST_CHECKED, takes_dimension, takes_length, takes_pair, takes_width
from orderforms.errors import Fault, Malformed, NoText, Refused
from orderforms.forms import form, group_order
from orderforms.incidence import moebius
from orderforms.linear import count_linear
from orderforms.papers import dimension_paper, length_paper, pair_paper, width_paper
from orderforms.sheet import read_line

# The first words of the lines that define a name, and of those whose replies have a paper.
DEFINING = ("let", "chain", "antichain", "parallel", "ordinal", "product", "common", "turned")
WITH_PAPER = ("width", "length", "dimension", "alike")


class Reply:
    """The reply to a line: a kind, a text and data."""

    def __init__(self, kind, text="", data=()):
        self.kind = kind
        self.text = text
        self.data = data

    def __eq__(self, other):
        return (
            isinstance(other, Reply) and self.kind == other.kind and self.text == other.text
            and self.data == other.data
        )


def reply_to(names, line):
    """Return the reply to a line over the orders that the names stand for."""
    try:
        return carried_out(names, read_line(line))
    except NoText:
        return Reply("error", "text")
    except Malformed:
        return Reply("error", "malformed")
    except Refused as e:
        return Reply("error", f"refused {e.reason}")


def carried_out(names, command):
    """Return the reply to a command; raise the errors of carrying it out."""
    word = command[0]
    if word == "empty":
        return Reply("done")
    if word in DEFINING:
        return Reply("order", str(made_order(names, command)))
    if word in WITH_PAPER:
        paper = paper_of(names, command)
        return Reply(kind_of(word), text_of(paper), paper)
    order = named(names, command[1])
    if word == "show":
        return Reply("order", str(order))
    if word == "form":
        return Reply("order", str(form(order)))
    return Reply("number", str(number_of(order, command)))


def named(names, name):
    """Return the order that a name stands for; raise Refused("name") if there is none."""
    if name not in names:
        raise Refused("name")
    return names[name]


def made_order(names, command):
    """Return the order that a command defines."""
    word = command[0]
    if word == "let":
        return command[2]
    if word == "chain":
        return chain(command[2])
    if word == "antichain":
        return antichain(command[2])
    one = named(names, command[2])
    if word == "turned":
        return one.turned()
    two = named(names, command[3])
    if word == "parallel":
        return parallel(one, two)
    if word == "ordinal":
        return ordinal(one, two)
    if word == "product":
        return product(one, two)
    return common_part((one, two))


def paper_of(names, command):
    """Return the paper that belongs to a command whose reply has one."""
    word = command[0]
    order = named(names, command[1])
    if word == "width":
        return width_paper(order)
    if word == "length":
        return length_paper(order)
    if word == "dimension":
        return dimension_paper(order)
    return pair_paper(order, named(names, command[2]))


def takes_paper(names, command, paper):
    """Return True if the checker takes the value as the paper of a command whose reply has one, for every value."""
    word = command[0]
    order = named(names, command[1])
    if word == "width":
        return takes_width(order, paper)
    if word == "length":
        return takes_length(order, paper)
    if word == "dimension":
        return order.n <= MOST_CHECKED and takes_dimension(order, paper)
    return takes_pair(order, named(names, command[2]), paper)


def kind_of(word):
    """Return the kind of the replies with a paper, by the first word of the line."""
    return "alike" if word == "alike" else "number"


def text_of(paper):
    """Return the text that belongs to a paper of a width, a length, a dimension or two orders."""
    if paper[0] == "map":
        return "yes"
    if paper[0] == "none":
        return "no"
    return str(len(paper[1]))


def number_of(order, command):
    """Return the number that a command without a paper asks for."""
    word = command[0]
    if word == "linear":
        return count_linear(order)
    if word == "group":
        return group_order(order)
    x, y = command[2:]
    if x >= order.n or y >= order.n:
        raise Refused("point")
    return moebius(order).value(x, y)


def defined(names, line):
    """Return the pair of the name and the order that a line defines, or None."""
    try:
        command = read_line(line)
        if command[0] not in DEFINING:
            return None
        return (command[1], made_order(names, command))
    except Fault:
        return None


def is_right(names, entry):
    """Return True if the value is an entry that is right over the orders of the names, for every value."""
    if not isinstance(entry, tuple) or len(entry) != 2 or not isinstance(entry[1], Reply):
        return False
    line, reply = entry
    if has_taken_paper(names, line, reply):
        return True
    wanted = reply_to(names, line)
    # A reply with a paper is judged by its paper alone; every other reply has no data.
    return wanted.data == () and reply == wanted


def has_taken_paper(names, line, reply):
    """Return True if the line asks for a paper and the reply has one that the checker takes, with its kind and text."""
    try:
        command = read_line(line)
        if command[0] not in WITH_PAPER or not takes_paper(names, command, reply.data):
            return False
    except Fault:
        return False
    return reply.kind == kind_of(command[0]) and reply.text == text_of(reply.data)

"""The console: lines are entered, which define orders and ask for them."""

from orderforms.errors import Refused
from orderforms.log import write_log
from orderforms.replies import defined, reply_to


class Console:
    """Definitions and entries; `most` lines may be entered."""

    def __init__(self, *, most=300):
        self.most = most
        self.orders = {}
        self.entries = []

    def __len__(self):
        return len(self.entries)

    def __iter__(self):
        return iter(self.entries)

    def enter(self, line):
        """Enter a line and return the reply; raise Refused("lines") if no more lines may be entered."""
        if len(self.entries) >= self.most:
            raise Refused("lines")
        reply = reply_to(self.orders, line)
        made = defined(self.orders, line)
        if made is not None:
            self.orders[made[0]] = made[1]
        self.entries.append((line, reply))
        return reply

    def names(self):
        """Return a new dict from the defined names to their orders."""
        return dict(self.orders)

    def log(self):
        """Return the written form of the log."""
        return write_log(self.entries)

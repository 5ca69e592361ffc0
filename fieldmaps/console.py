"""A console, which keeps the fields that its lines define, and its lines with their replies."""

from fieldmaps.errors import Refused
from fieldmaps.replies import fields_behind, reply_to

# So many lines may be entered.
MOST_LINES = 300


class Console:
    """The entries, pairs of a line and its reply, in their order, and the fields that are defined."""

    def __init__(self):
        self._entries = []
        self._fields = {}

    def __len__(self):
        return len(self._entries)

    def enter(self, line):
        """The reply to the line, which is kept; raises Refused("lines") if there are too many, and changes nothing."""
        if len(self._entries) >= MOST_LINES:
            raise Refused("lines")
        reply = reply_to(self._fields, line)
        self._entries.append((line, reply))
        self._fields = fields_behind(self._fields, line)
        return reply

    def entries(self):
        """A new list of the entries."""
        return list(self._entries)

    def fields(self):
        """A new dict from the names of the defined fields to them."""
        return dict(self._fields)

"""Hooks: what is to be rebuilt when something changes."""

from owedrebuilds.errors import BadHook
from owedrebuilds.plain import is_word
from owedrebuilds.ways import Way

_MOST_STEPS = 8


class Look:
    """When a hook walks its way."""

    AHEAD = "ahead"
    BEHIND = "behind"
    LATE = "late"


class Hook:
    """An event, a look, a way from the changed row to copies, and the name of their document."""

    def __init__(self, event, look, way, document):
        if not isinstance(way, Way) or len(way) > _MOST_STEPS:
            raise BadHook("way")
        if not _is_event(way, event):
            raise BadHook("event")
        if look not in (Look.AHEAD, Look.BEHIND, Look.LATE):
            raise BadHook("look")
        if not is_word(document):
            raise BadHook("document")
        self.event = event
        self.look = look
        self.way = way
        self.document = document

    def __call__(self, store, key):
        """The keys of the copies that the way meets in this store from a row, ascending."""
        return self.way(store, key)

    def answers(self, change):
        """Whether a change is of the hook's event."""
        if change[0] == "set":
            return self.event == ("set", change[1], change[3])
        return self.event == (change[0], change[1])

    def looking(self, look):
        """The same hook with another look."""
        return Hook(self.event, look, self.way, self.document)

    def __eq__(self, other):
        return (
            isinstance(other, Hook) and self.event == other.event and self.look == other.look
            and self.document == other.document and self.way == other.way
        )

    def __str__(self):
        words = ["hook", self.event[0], *self.event[2:], self.look, self.document, str(self.way)]
        return " ".join(words)


def _is_event(way, thing):
    """Whether any value is an event of the table where a way starts."""
    if not isinstance(thing, tuple):
        return False
    if thing[:2] == ("set", way.start):
        return thing[1:] in way.schema
    return thing == ("put", way.start) or thing == ("remove", way.start)

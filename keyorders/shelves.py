"""A shelf that keeps things in order, and goes back step by step."""

from keyorders.errors import NoPlace, NoStep
from keyorders.lists import first_place, last_place, ordered


class Shelf:
    """Things kept in order by a row; put, take and order are its deeds."""

    def __init__(self, row):
        # The row and the things stand in one tuple that no deed changes, so each state can be kept as it was.
        self.now = (row, ())
        self.past = []
        self.undone = []

    def things(self):
        """All things, in order."""
        return self.now[1]

    def row(self):
        """The row by which the things are in order."""
        return self.now[0]

    def become(self, row, things):
        """The state behind a new deed; what was taken back ahead of it cannot be done again."""
        self.past.append(self.now)
        self.undone = []
        self.now = (row, things)

    def put(self, thing):
        """Puts the thing behind all that do not come behind it; its place."""
        row, things = self.now
        at = last_place(row, things, thing)
        self.become(row, things[:at] + (thing,) + things[at:])
        return at

    def take(self, at):
        """Takes the thing at this place away, and tells it; NoPlace if there is none."""
        row, things = self.now
        if not 0 <= at < len(things):
            raise NoPlace(f"no thing stands at {at}")
        self.become(row, things[:at] + things[at + 1:])
        return things[at]

    def order(self, row):
        """Puts the things in order by another row; those not told apart stay as they stood."""
        self.become(row, ordered(row, self.things()))

    def around(self, thing):
        """How many things come ahead of the thing, and how many do not come behind it."""
        row, things = self.now
        return first_place(row, things, thing), last_place(row, things, thing)

    def between(self, one, other):
        """All things that do not come ahead of the one, nor behind the other, in order."""
        row, things = self.now
        return things[first_place(row, things, one):last_place(row, things, other)]

    def back(self):
        """Takes the last deed back that was not taken back; NoStep if there is none."""
        if not self.past:
            raise NoStep("no deed is left to take back")
        self.undone.append(self.now)
        self.now = self.past.pop()

    def forth(self):
        """Does the deed again that was taken back last; NoStep if there is none, or another was done since."""
        if not self.undone:
            raise NoStep("no deed is left to do again")
        self.past.append(self.now)
        self.now = self.undone.pop()

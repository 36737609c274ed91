"""A pool: wishes, each as often as it was put in, and the greatest of them as some are put in and taken out."""

from newsways.lists import greatest_of, is_under
from newsways.wishes import rank


def wishes_in_order(wishes):
    return sorted(wishes, key=rank)


class Pool:
    """Wishes that are known to be such; what is taken out is known to be there."""

    def __init__(self):
        # How often each wish is there; none is kept of which there are none.
        self.times = {}
        # The greatest of all, kept up to date: to find them anew each time takes long where there are many.
        self.tops = {}

    def put_in(self, wishes):
        """The wishes that came by it to the greatest, and those that went, both in order; those put in are unlike."""
        new = [wish for wish in wishes if wish not in self.times]
        for wish in wishes:
            self.times[wish] = self.times.get(wish, 0) + 1
        come = [wish for wish in greatest_of(new) if not is_under(wish, self.tops)]
        gone = [wish for wish in self.tops if is_under(wish, come)] if come else []
        return self.change_tops(come, gone)

    def take_out(self, wishes):
        """The wishes that came by it to the greatest, and those that went, both in order; those taken are unlike."""
        lost = {wish: True for wish in wishes if self.times[wish] == 1}
        for wish in wishes:
            self.times[wish] -= 1
        for wish in lost:
            del self.times[wish]
        gone = [wish for wish in lost if wish in self.tops]
        return self.change_tops(self.risen_without(lost), gone)

    def greatest_without(self, wishes):
        """The greatest, in order, where each of these unlike wishes were there once less."""
        lost = {wish: True for wish in wishes if self.times[wish] == 1}
        staying = [wish for wish in self.tops if wish not in lost]
        return wishes_in_order(staying + self.risen_without(lost))

    def risen_without(self, lost):
        """The wishes that come to the greatest where the lost ones are there no more."""
        fallen = [wish for wish in lost if wish in self.tops]
        if not fallen:
            return []
        staying = [wish for wish in self.tops if wish not in lost]
        # Only what a fallen one covered can rise: all else stays under one of those that stay.
        freed = [wish for wish in self.times if wish not in lost and is_under(wish, fallen)]
        return greatest_of([wish for wish in freed if not is_under(wish, staying)])

    def change_tops(self, come, gone):
        for wish in gone:
            del self.tops[wish]
        for wish in come:
            self.tops[wish] = True
        return (wishes_in_order(come), wishes_in_order(gone))

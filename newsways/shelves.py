"""A shelf: wishes held by holders, and the greatest of them as holders put on and take off."""

from newsways.errors import NoName, NotWanted, Twice
from newsways.lists import greatest_of, is_under
from newsways.wishes import check_piece, check_unlike_wishes, check_wish, rank, wish_reaches, wish_takes

MOST_SIGNS = 15


def is_holder(thing):
    if not isinstance(thing, str) or not 1 <= len(thing) <= MOST_SIGNS:
        return False
    return all(["a" <= sign <= "z" or "0" <= sign <= "9" for sign in thing])


def check_holder(thing):
    if not is_holder(thing):
        raise NoName(f"a holder is a text of one to {MOST_SIGNS} small letters or figures")


def wishes_in_order(wishes):
    return sorted(wishes, key=rank)


class Shelf:
    """Who holds which wishes."""

    def __init__(self):
        # By holder, and the same by wish; neither keeps one of which nothing is held.
        self.by_holder = {}
        self.by_wish = {}
        # The greatest of all, kept up to date: to find them anew each time takes long where there are many.
        self.tops = {}

    def __len__(self):
        return len(self.by_wish)

    def __eq__(self, other):
        return isinstance(other, Shelf) and self.by_holder == other.by_holder

    def put(self, holder, wishes):
        check_holder(holder)
        check_unlike_wishes(wishes)
        for wish in wishes:
            if self.is_held(holder, wish):
                raise Twice("the holder holds one of the wishes already")
        new = [wish for wish in wishes if wish not in self.by_wish]
        for wish in wishes:
            self.hold(holder, wish)
        come = [wish for wish in greatest_of(new) if not is_under(wish, self.tops)]
        gone = [wish for wish in self.tops if is_under(wish, come)]
        return self.change(come, gone)

    def take(self, holder, wishes):
        check_holder(holder)
        check_unlike_wishes(wishes)
        for wish in wishes:
            if not self.is_held(holder, wish):
                raise NotWanted("the holder does not hold one of the wishes")
        for wish in wishes:
            self.let_go(holder, wish)
        lost = {wish: True for wish in wishes if wish not in self.by_wish}
        gone = [wish for wish in self.tops if wish in lost]
        return self.change(self.risen_without(lost), gone)

    def greatest(self, beside=None):
        if beside is None:
            return wishes_in_order(self.tops)
        check_holder(beside)
        lost = {wish: True for wish in self.by_holder.get(beside, {}) if len(self.by_wish[wish]) == 1}
        staying = [wish for wish in self.tops if wish not in lost]
        return wishes_in_order(staying + self.risen_without(lost))

    def wishes(self, holder):
        check_holder(holder)
        return wishes_in_order(self.by_holder.get(holder, {}))

    def holders(self, wish):
        check_wish(wish)
        return sorted(self.by_wish.get(wish, {}))

    def who(self, piece):
        check_piece(piece)
        wanted = [wish for wish in self.by_wish if wish_takes(wish, piece)]
        return sorted({holder for wish in wanted for holder in self.by_wish[wish]})

    def over(self, wish):
        check_wish(wish)
        for top in self.greatest():
            if wish_reaches(top, wish):
                return top
        return None

    # What follows serves the methods above, with holders and wishes that are known to be such.

    def is_held(self, holder, wish):
        return holder in self.by_wish.get(wish, {})

    def hold(self, holder, wish):
        held = self.by_holder.setdefault(holder, {})
        held[wish] = True
        holding = self.by_wish.setdefault(wish, {})
        holding[holder] = True

    def let_go(self, holder, wish):
        del self.by_holder[holder][wish]
        if not self.by_holder[holder]:
            del self.by_holder[holder]
        del self.by_wish[wish][holder]
        if not self.by_wish[wish]:
            del self.by_wish[wish]

    def risen_without(self, lost):
        """The wishes that come to the greatest where the lost ones are on the shelf no more."""
        fallen = [wish for wish in self.tops if wish in lost]
        staying = [wish for wish in self.tops if wish not in lost]
        # Only what a fallen one covered can rise: all else stays under one of those that stay.
        freed = [wish for wish in self.by_wish if wish not in lost and is_under(wish, fallen)]
        return greatest_of([wish for wish in freed if not is_under(wish, staying)])

    def change(self, come, gone):
        for wish in gone:
            del self.tops[wish]
        for wish in come:
            self.tops[wish] = True
        return (wishes_in_order(come), wishes_in_order(gone))

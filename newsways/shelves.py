"""A shelf: wishes held by holders, and the greatest of them as holders put on and take off."""

from newsways.errors import NoName, NotWanted, Twice
from newsways.pools import Pool, wishes_in_order
from newsways.wishes import check_piece, check_unlike_wishes, check_wish, wish_reaches, wish_takes

MOST_SIGNS = 15


def is_holder(thing):
    if not isinstance(thing, str) or not 1 <= len(thing) <= MOST_SIGNS:
        return False
    return all(["a" <= sign <= "z" or "0" <= sign <= "9" for sign in thing])


def check_holder(thing):
    if not is_holder(thing):
        raise NoName(f"a holder is a text of one to {MOST_SIGNS} small letters or figures")


class Shelf:
    """Who holds which wishes."""

    def __init__(self):
        # By holder, and the same by wish; neither keeps one of which nothing is held.
        self.by_holder = {}
        self.by_wish = {}
        # Each wish as often as there are holders of it.
        self.pool = Pool()

    def __len__(self):
        return len(self.by_wish)

    def __eq__(self, other):
        return isinstance(other, Shelf) and self.by_holder == other.by_holder

    def put(self, holder, wishes):
        check_holder(holder)
        check_unlike_wishes(wishes)
        for wish in wishes:
            if self.is_held(holder, wish):
                raise Twice("the holder holds one of the wishes already")
        for wish in wishes:
            self.hold(holder, wish)
        return self.pool.put_in(wishes)

    def take(self, holder, wishes):
        check_holder(holder)
        check_unlike_wishes(wishes)
        for wish in wishes:
            if not self.is_held(holder, wish):
                raise NotWanted("the holder does not hold one of the wishes")
        for wish in wishes:
            self.let_go(holder, wish)
        return self.pool.take_out(wishes)

    def greatest(self, beside=None):
        if beside is None:
            return self.pool.greatest_without([])
        check_holder(beside)
        return self.pool.greatest_without(list(self.by_holder.get(beside, {})))

    def wishes(self, holder):
        check_holder(holder)
        return wishes_in_order(self.by_holder.get(holder, {}))

    def holders(self, wish):
        check_wish(wish)
        return sorted(self.by_wish.get(wish, {}))

    def who(self, piece):
        check_piece(piece)
        wanted = [wish for wish in self.by_wish if wish_takes(wish, piece)]
        return sorted({holder for wish in wanted for holder in self.by_wish[wish]})

    def over(self, wish):
        check_wish(wish)
        for top in self.greatest():
            if wish_reaches(top, wish):
                return top
        return None

    # What follows serves the methods above, with holders and wishes that are known to be such.

    def is_held(self, holder, wish):
        return holder in self.by_wish.get(wish, {})

    def hold(self, holder, wish):
        held = self.by_holder.setdefault(holder, {})
        held[wish] = True
        holding = self.by_wish.setdefault(wish, {})
        holding[holder] = True

    def let_go(self, holder, wish):
        del self.by_holder[holder][wish]
        if not self.by_holder[holder]:
            del self.by_holder[holder]
        del self.by_wish[wish][holder]
        if not self.by_wish[wish]:
            del self.by_wish[wish]

"""A post: hands that want news, and neighbours that are told what is wanted here and beyond."""

from newsways.errors import NoHand, NoLetter, NoName, NoRoad, NotWanted, Twice
from newsways.letters import is_from_nought, is_letter, is_name
from newsways.pools import Pool, wishes_in_order
from newsways.spans import is_whole
from newsways.wishes import check_piece, check_wish, is_wish, one_takes


def said_letters(neighbour, come, gone):
    """What a neighbour is told where wishes came to what is to be said to it, and went."""
    wants = [(neighbour, ("want", wish)) for wish in come]
    return wants + [(neighbour, ("unwant", wish)) for wish in gone]


class Post:
    """Who is here and wants what, and what each neighbour wants and was told."""

    def __init__(self, number, neighbours):
        self.number = number
        self.many_told = 0
        # The wishes of each hand, by its name, and those known of each neighbour, by its number.
        self.held = {}
        # Each hand's marks: the last number that it was given, by teller.
        self.marked = {}
        # For each neighbour the wishes of all the others, whose greatest ones are what is said to it.
        self.pools = {}
        for neighbour in neighbours:
            self.held[neighbour] = {}
            self.pools[neighbour] = Pool()

    def come(self, hand):
        self.check_new(hand)
        self.settle(hand)
        return ([], [])

    def go(self, hand):
        self.check_free(hand)
        return (self.let_go_hand(hand), [])

    def want(self, hand, wish):
        self.check_free(hand)
        check_wish(wish)
        if wish in self.held[hand]:
            raise Twice("the hand wants this already")
        return (self.hold_more(hand, [wish]), [])

    def unwant(self, hand, wish):
        self.check_free(hand)
        # What is no wish is looked up nowhere: it may be of a kind that cannot be, or be alike but for True and 1.
        if not is_wish(wish) or wish not in self.held[hand]:
            raise NotWanted("the hand does not want this")
        return (self.hold_fewer(hand, [wish]), [])

    def tell(self, piece):
        check_piece(piece)
        number = self.many_told
        self.many_told += 1
        return self.spread(None, self.number, number, piece)

    def hear(self, neighbour, letter):
        self.check_neighbour(neighbour)
        if not is_letter(letter):
            raise NoLetter("what was handed in is no letter")
        return self.hear_letter(neighbour, letter)

    def grow(self, neighbour):
        if not is_from_nought(neighbour) or neighbour == self.number or neighbour in self.pools:
            raise NoRoad("a new neighbour is a whole number from 0 on, another than this post and its neighbours")
        pool = Pool()
        for holder in self.held:
            pool.put_in(list(self.held[holder]))
        self.held[neighbour] = {}
        self.pools[neighbour] = pool
        return (said_letters(neighbour, self.said(neighbour), []), [])

    def hands(self):
        return sorted(self.marked)

    def wishes(self, hand):
        self.check_hand(hand)
        return wishes_in_order(self.held[hand])

    def marks(self, hand):
        self.check_hand(hand)
        return sorted(self.marked[hand].items())

    def known(self, neighbour):
        self.check_neighbour(neighbour)
        return wishes_in_order(self.held[neighbour])

    def said(self, neighbour):
        self.check_neighbour(neighbour)
        return self.pools[neighbour].greatest_without([])

    def told(self):
        return self.many_told

    # The refusals of several deeds.

    def check_new(self, hand):
        if not is_name(hand):
            raise NoName("a name is a text of one to eight small letters")
        if hand in self.marked:
            raise Twice("this hand is here already")

    def check_hand(self, hand):
        if not is_name(hand) or hand not in self.marked:
            raise NoHand("no such hand is here")

    def check_free(self, hand):
        """Refuses deeds of a hand that is not here; at a Stop also of one that is on the way."""
        self.check_hand(hand)

    def check_neighbour(self, thing):
        if not is_whole(thing) or thing not in self.pools:
            raise NoRoad("what was handed in is no neighbour's number")

    # What follows serves the deeds; hands, neighbours, wishes and letters are known to be such.

    def settle(self, hand):
        self.held[hand] = {}
        self.marked[hand] = {}

    def let_go_hand(self, hand):
        letters = self.hold_fewer(hand, list(self.held[hand]))
        del self.held[hand], self.marked[hand]
        return letters

    def hold_more(self, holder, wishes):
        """A hand or a neighbour wants these unlike wishes, too: the letters that tell it."""
        for wish in wishes:
            self.held[holder][wish] = True
        letters = []
        for neighbour in self.neighbours_beside(holder):
            come, gone = self.pools[neighbour].put_in(wishes)
            letters.extend(said_letters(neighbour, come, gone))
        return letters

    def hold_fewer(self, holder, wishes):
        """A hand or a neighbour wants these unlike wishes no more: the letters that tell it."""
        for wish in wishes:
            del self.held[holder][wish]
        letters = []
        for neighbour in self.neighbours_beside(holder):
            come, gone = self.pools[neighbour].take_out(wishes)
            letters.extend(said_letters(neighbour, come, gone))
        return letters

    def neighbours_beside(self, holder):
        """The neighbours but this one, rising."""
        return [neighbour for neighbour in sorted(self.pools) if neighbour != holder]

    def hear_letter(self, neighbour, letter):
        """Hears any letter; a Stop hears more kinds of them."""
        return self.hear_plain(neighbour, letter)

    def hear_plain(self, neighbour, letter):
        """Hears a want, an unwant or news; refuses other letters."""
        if letter[0] == "news":
            return self.spread(neighbour, letter[1], letter[2], letter[3])
        if letter[0] == "want" and letter[1] not in self.held[neighbour]:
            return (self.hold_more(neighbour, [letter[1]]), [])
        if letter[0] == "unwant" and letter[1] in self.held[neighbour]:
            return (self.hold_fewer(neighbour, [letter[1]]), [])
        raise NoLetter("the post cannot hear this letter from this neighbour")

    def spread(self, source, teller, number, piece):
        """Gives a piece to the hands and puts it out to the neighbours that want it, but the one it came from."""
        given = []
        for hand in self.hands():
            if one_takes(self.held[hand], piece):
                given.extend(self.hand_over(hand, teller, number, piece))
        letter = ("news", teller, number, piece)
        wanting = [other for other in self.neighbours_beside(source) if one_takes(self.held[other], piece)]
        return ([(neighbour, letter) for neighbour in wanting], given)

    def hand_over(self, hand, teller, number, piece):
        """What the hand is given where a piece comes that it wants; at a Stop it may be kept for it."""
        return self.give(hand, teller, number, piece)

    def give(self, hand, teller, number, piece):
        """Gives the piece to the hand where it is above its mark of the teller: a list of what is given."""
        marks = self.marked[hand]
        if teller in marks and number <= marks[teller]:
            return []
        marks[teller] = number
        return [(hand, teller, number, piece)]

"""A stop: a post whose hands may leave for another one, or be expected from there."""

from newsways.errors import NoLetter, NoRoad, OnTheWay
from newsways.letters import is_way
from newsways.posts import Post
from newsways.wishes import check_unlike_wishes


class Stop(Post):
    """A post at which hands stay, leave, or are coming."""

    def __init__(self, number, neighbours):
        Post.__init__(self, number, neighbours)
        # What is kept for each hand that leaves or is coming, and which of these are coming.
        self.kept = {}
        self.expected = {}

    def leave(self, hand):
        self.check_free(hand)
        self.kept[hand] = []
        return self.wishes(hand)

    def expect(self, hand, wishes, way):
        self.check_new(hand)
        check_unlike_wishes(wishes)
        if not is_way(way) or way[0] != self.number or way[1] not in self.pools:
            raise NoRoad("a way is due that leads from this post over a neighbour")
        self.settle(hand)
        self.kept[hand] = []
        self.expected[hand] = True
        letters = self.hold_more(hand, wishes)
        return (letters + [(way[1], ("here", hand, way))], [])

    def staying(self):
        return [hand for hand in self.hands() if not self.is_moving(hand)]

    def leaving(self):
        return [hand for hand in self.hands() if self.is_leaving(hand)]

    def coming(self):
        return sorted(self.expected)

    # What follows serves the deeds.

    def check_free(self, hand):
        self.check_hand(hand)
        if self.is_moving(hand):
            raise OnTheWay("the hand leaves or is coming")

    def is_moving(self, hand):
        return hand in self.kept

    def is_leaving(self, hand):
        return hand in self.kept and hand not in self.expected

    def hand_over(self, hand, teller, number, piece):
        if not self.is_moving(hand):
            return self.give(hand, teller, number, piece)
        self.kept[hand].append((teller, number, piece))
        return []

    def hear_letter(self, neighbour, letter):
        if letter[0] not in ("here", "kept"):
            return self.hear_plain(neighbour, letter)
        following = self.next_post(neighbour, letter[2])
        if following is not None:
            return ([(following, letter)], [])
        return self.hear_here(letter) if letter[0] == "here" else self.hear_kept(letter)

    def next_post(self, neighbour, way):
        """The post to which a letter that this neighbour sent goes on along its way, or None at its end."""
        at = way.index(self.number) if self.number in way else 0
        if at == 0 or way[at - 1] != neighbour:
            raise NoLetter("the way does not lead over this neighbour to this post")
        if at == len(way) - 1:
            return None
        if way[at + 1] not in self.pools:
            raise NoLetter("the way goes on to a post that is no neighbour")
        return way[at + 1]

    def hear_here(self, letter):
        """The hand is expected where the letter came from: it goes, and what was kept for it is sent there."""
        word, hand, way = letter
        if not self.is_leaving(hand):
            raise NoLetter("no such hand leaves")
        answer = ("kept", hand, way[::-1], tuple(self.marks(hand)), tuple(self.kept[hand]))
        del self.kept[hand]
        letters = self.let_go_hand(hand)
        return (letters + [(way[-2], answer)], [])

    def hear_kept(self, letter):
        """The hand has arrived: it stays, and is given what was kept for it there and here."""
        word, hand, way, marks, pieces = letter
        if hand not in self.expected:
            raise NoLetter("no such hand is coming")
        waiting = list(pieces) + self.kept[hand]
        del self.kept[hand], self.expected[hand]
        self.marked[hand] = {teller: number for teller, number in marks}
        given = []
        for teller, number, piece in waiting:
            given.extend(self.give(hand, teller, number, piece))
        return ([], given)

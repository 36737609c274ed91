"""Roads: the stops of a web, the letters that lie between them, and the hands that stand and move there."""

from newsways.errors import Full, NoHand, NoLetter, NoName, NoNumber, Twice
from newsways.letters import is_from_nought, is_name
from newsways.stops import Stop
from newsways.webs import MOST_ROADS, check_joined, check_post, check_web, roads_from, way_between
from newsways.wishes import check_wish

MOST_HANDS = 30
MOST_WISHES = 10


class Roads:
    """All that goes on in a web, deed by deed; what is not refused here, the stop of the deed refuses."""

    def __init__(self, web=None):
        if web is not None:
            check_web(web)
        self.tree = [] if web is None else list(web)
        self.stops = [Stop(post, roads_from(self.tree, post)) for post in range(len(self.tree) + 1)]
        # The letters that lie on each road, by the post they come from and the one they go to.
        self.lanes = {(p, q): [] for p in range(len(self.stops)) for q in roads_from(self.tree, p)}
        # By hand, where it stands or to which post it moves, and what it was given.
        self.places = {}
        self.gifts = {}
        # The rows of the run.
        self.run = []

    def come(self, hand, post):
        if not is_name(hand):
            raise NoName("a name is a text of one to eight small letters")
        if hand in self.places:
            raise Twice("this hand is there already")
        check_post(self.tree, post)
        if len(self.places) >= MOST_HANDS:
            raise Full(f"there are {MOST_HANDS} hands already")
        self.places[hand] = post
        self.gifts[hand] = []
        self.enter(("come", hand, post), post, self.stops[post].come(hand))

    def go(self, hand):
        stop = self.stop_of_free(hand)
        self.enter(("go", hand), stop.number, stop.go(hand))
        del self.places[hand], self.gifts[hand]

    def want(self, hand, wish):
        stop = self.stop_of_free(hand)
        check_wish(wish)
        wishes = stop.wishes(hand)
        if wish in wishes:
            raise Twice("the hand wants this already")
        if len(wishes) >= MOST_WISHES:
            raise Full(f"the hand has {MOST_WISHES} wishes already")
        self.enter(("want", hand, wish), stop.number, stop.want(hand, wish))

    def unwant(self, hand, wish):
        stop = self.stop_of_free(hand)
        self.enter(("unwant", hand, wish), stop.number, stop.unwant(hand, wish))

    def tell(self, post, piece):
        check_post(self.tree, post)
        number = self.stops[post].told()
        self.enter(("tell", post, piece), post, self.stops[post].tell(piece))
        return number

    def move(self, hand, post):
        stop = self.stop_of_free(hand)
        check_post(self.tree, post)
        outcome = ([], [])
        if post != stop.number:
            back = tuple(way_between(self.tree, post, stop.number))
            outcome = self.stops[post].expect(hand, stop.leave(hand), back)
            self.places[hand] = post
        self.enter(("move", hand, post), post, outcome)

    def grow(self, post):
        check_post(self.tree, post)
        if len(self.tree) >= MOST_ROADS:
            raise Full(f"there are {MOST_ROADS + 1} posts already")
        self.tree.append(post)
        new = len(self.tree)
        self.stops.append(Stop(new, [post]))
        self.lanes[(post, new)] = []
        self.lanes[(new, post)] = []
        self.enter(("grow", post), post, self.stops[post].grow(new))
        return new

    def step(self, p, q):
        check_joined(self.tree, p, q)
        if not self.lanes[(p, q)]:
            raise NoLetter("no letter lies on this road in this direction")
        letter = self.lanes[(p, q)].pop(0)
        self.enter(("step", p, q), q, self.stops[q].hear(p, letter))

    def rest(self, most=None):
        if most is not None and not is_from_nought(most):
            raise NoNumber("the most steps are a whole number from 0 on")
        steps = 0
        road = self.least_road()
        while road is not None and (most is None or steps < most):
            self.step(road[0], road[1])
            steps += 1
            road = self.least_road()
        return steps

    def web(self):
        return list(self.tree)

    def hands(self):
        return sorted(self.places)

    def where(self, hand):
        return self.stop_of(hand).number

    def on_the_way(self, hand):
        return self.stop_of(hand).is_moving(hand)

    def wishes(self, hand):
        return self.stop_of(hand).wishes(hand)

    def got(self, hand):
        self.stop_of(hand)
        return list(self.gifts[hand])

    def lying(self):
        return [(p, q, list(self.lanes[(p, q)])) for p, q in sorted(self.lanes) if self.lanes[(p, q)]]

    def known(self, p, q):
        check_joined(self.tree, p, q)
        return self.stops[p].known(q)

    def said(self, p, q):
        check_joined(self.tree, p, q)
        return self.stops[p].said(q)

    def rows(self):
        return [(deed, list(letters), list(given)) for deed, letters, given in self.run]

    def first_letter(self, p, q):
        """The first letter that lies on the road from p to q, or None."""
        check_joined(self.tree, p, q)
        letters = self.lanes[(p, q)]
        return letters[0] if letters else None

    # What follows serves the methods above.

    def stop_of(self, hand):
        """The stop at which the hand stands, or to which it moves."""
        if not is_name(hand) or hand not in self.places:
            raise NoHand("no such hand is there")
        return self.stops[self.places[hand]]

    def stop_of_free(self, hand):
        """The stop of a hand that is not on the way."""
        stop = self.stop_of(hand)
        stop.check_free(hand)
        return stop

    def enter(self, deed, post, outcome):
        """Puts what came of a deed at a post on the roads, to the hands and into the rows of the run."""
        put_out, given = outcome
        letters = [(post, neighbour, letter) for neighbour, letter in put_out]
        for p, q, letter in letters:
            self.lanes[(p, q)].append(letter)
        for hand, teller, number, piece in given:
            self.gifts[hand].append((teller, number, piece))
        self.run.append((deed, letters, given))

    def least_road(self):
        """The road from the least post, and of these to the least one, on which a letter lies, or None."""
        return min([road for road in self.lanes if self.lanes[road]], default=None)

"""What several test files need: things of all kinds, checks of what is told and refused, the document's words."""

import copy
import functools
import unittest

from newsways import errors
from newsways.letters import is_letter, is_name
from newsways.webs import is_web, neighbours, way
from newsways.wishes import covers, in_order, is_piece, is_wish

GREAT = 10 ** 15 - 1
GREATER = 10 ** 40
# Beyond this many figures Python itself refuses to write a number out.
GREATEST = 10 ** 6000


class Other:
    """A thing of a kind that the document does not speak of."""


def odd_things():
    """Things that are no span, no wish, no piece, no list of wishes and no whole number."""
    return [
        None, True, False, "", "a", "a:1..2", "(1, 2)", b"", b"ab", {}, {"a": 1}, {1: 2}, {"a": (1, 2)},
        set(), {1, 2}, frozenset([1]), [None], [1], [1, 2], [[]], [{}], [["a", 1, 2]], [("a", 1, 2)], [("a", 1)],
        (None,), (1,), ("a",), (1, 2, 3), ("a", "b"), ("a", 1), ("a", 1, 2), ("a", 1, 2, 3), ([],), ({},), ((),),
        ((1,),), (("a",),), (None, None, None), ([1, 2],), ({"a": 1},), Other(), Other, len, range(2), 1 .__add__,
    ]


def nested(depth):
    """A tuple in a tuple in a tuple, so deep."""
    thing = ()
    for _ in range(depth):
        thing = (thing,)
    return thing


BAD_FIELDS = [
    "", "abcdefghi", "x" * 2000, "A", "aB", "a1", "1", "a b", " a", "a ", "a_b", "a-b", "a:", "*", "-", "a\n", "\t",
    "`", "{", "@", "~", None, True, 0, 1, b"a", ("a",), ["a"], {}, {"a": 1}, Other(),
]
NO_WISHES = odd_things() + [
    [], [("a", 1, 2)], [()], ((),), (((),),), ("a", 1, 2), (["a", 1, 2],), (("a", 1),), (("a",),), (("a", 1, 2, 3),),
    (("a", (1, 2)),), (("a", [1, 2]),), (("a", 2, 1),), (("a", 0, -1),), (("a", GREATER, -GREATER),),
    (("a", True, 2),), (("a", 0, True),), (("a", None, False),), (("a", False, None),), (("a", "1", 2),),
    (("a", 1, "2"),), (("a", [], None),), (("a", None, {}),), (("a", (), ()),), (1, "a", 2), ((1, "a", 2),),
    (("a", 1, 2), ("a", 1, 2)), (("a", 1, 2), ("a", 3, 4)), (("b", 1, 2), ("a", 1, 2)), (("ab", 1, 2), ("a", 1, 2)),
    (("a", 1, 2), ("c", 1, 2), ("b", 1, 2)), (("a", 1, 2), None), (("a", 1, 2), ["b", 1, 2]), (("a", 1, 2), ("b", 1)),
    (("a", 1, 2), ("b", 3, 1)), (("a", 2, 1), ("b", 1, 1)), (("a", 1, 2), ("b", 1, 2), ("b", 1, 2)), "", "a", {}, 0,
    {"a": (1, 2)}, ({"a": (1, 2)},), nested(20), (("a", 1), ("b", 2)), (("a", 1, 2), ("B", 1, 2)), 7, GREATEST, -1,
] + [((field, 1, 2),) for field in BAD_FIELDS] + [(("a", 1, 2), (field, 1, 2)) for field in BAD_FIELDS]
NO_PIECES = odd_things() + [
    [], [("a", 1)], [()], ((),), (((),),), ("a", 1), (["a", 1],), (("a",),), (("a", 1, 2),), (("a", None),),
    (("a", True),), (("a", False),), (("a", "1"),), (("a", []),), (("a", (1,)),), (("a", {}),), (1, "a"), ((1, "a"),),
    (("a", 1), ("a", 1)), (("a", 1), ("a", 2)), (("b", 1), ("a", 1)), (("ab", 1), ("a", 1)), (("a", b"1"),), "", "a",
    (("a", 1), ("c", 1), ("b", 1)), (("a", 1), None), (("a", 1), ["b", 1]), (("a", 1), ("b", 1, 2)), {"a": 1}, {}, 0,
    (("a", None), ("b", 1)), (("a", 1), ("b", None)), (("a", 1), ("b", 1), ("b", 1)), nested(20), 7, GREATEST, -1,
    (("a", Other()),), ({"a": 1},),
] + [((field, 1),) for field in BAD_FIELDS] + [(("a", 1), (field, 1)) for field in BAD_FIELDS]
# Things that are no whole number from 0 on.
NO_NUMBERS = odd_things() + ["0", b"0", (0,), [0], {0: 0}, (), [], -1, -GREATEST, nested(20)]
NO_NAMES = BAD_FIELDS + [thing for thing in odd_things() if thing != "a"] + [
    "ann1", "Ann", "an n", "ann ", "\nann", "an-n", GREATEST, ("ann",), ["ann"], b"ann", {"ann": 1}, nested(20),
]
# Among the odd things is one that is a way.
NO_WAYS = [thing for thing in odd_things() if thing != (1, 2, 3)] + [
    (), (0,), [0, 1], [], {0: 1, 1: 2}, "01", range(2), 0, (0, 0), (1, 2, 1), (0, 1, 2, 2), (3, 3, 4), (-1, 0), (0, -1),
    (0, True), (True, 0), (False, 1), (True, False), (0, None), (None, 0), (0, "1"), ("0", 1), (0, (1,)), ([0], 1),
    (0, 1, []), (0, 1, {}), ((0, 1),), ((0, 1), (1, 2)), (0, 1, Other()), nested(20),
]
NO_WEBS = odd_things() + [
    (), (0,), (0, 1), "0", "", "00", {}, {0: 0}, {0}, range(1), range(0), 0, 1, -1, GREATEST, nested(20), Other(),
    [1], [-1], [0, 2], [0, -1], [0, 0, 3], [0, 1, 2, 4], [GREATEST], [0, GREATEST], [0, -GREATEST], [0] * 22 + [23],
    [False], [True], [0, True], [0, False], [0, 0, True], [None], [0, None], ["0"], [0, "0"], [[0]], [0, [0]], [(0,)],
    [0, (1,)], [{}], [b"0"], [Other()], [0] * 24, list(range(24)), [0] * 200, list(range(200)), [0] * 23 + [None],
]
# Things that are no list of unlike wishes.
NO_LISTS = odd_things() + [(), ((("a", 1, 2),),), ((),), (("a", 1, 2),), {(): 1}, {()}, "", GREATEST, nested(20)]
NO_LISTS += [[thing] for thing in NO_WISHES] + [[(("a", 1, 2),), thing] for thing in NO_WISHES]
NO_LISTS += [[(("a", 1, 2),), (("a", 1, 2),)], [(), ()], [(), (("b", 1, 2),), ()], [(("b", 1, 2),), (), ()]]
NO_LETTERS = odd_things() + NO_WAYS[:20] + [
    (), [], "want", "want -", 0, GREATEST, nested(20), ("want",), ("want", None), ("want", [()]), ["want", ()],
    ("want", (), ()), ("want", (("a", 2, 1),)), ("want", (("a", True, 2),)), ("unwant", (("a", 1),)), ("unwant",),
    ("Want", ()), ("wants", ()), ("tell", ()), ("news", 0, 0), ("news", 0, 0, (), ()), ("news", -1, 0, ()),
    ("news", 0, -1, ()), ("news", True, 0, ()), ("news", 0, False, ()), ("news", None, 0, ()), ("news", 0, 0, None),
    ("news", 0, 0, [()]), ("news", 0, 0, (("a", 1, 2),)), ("news", 0, 0, (("a", None),)), ["news", 0, 0, ()],
    ("here", "ann"), ("here", "ann", (0,)), ("here", "ann", (0, 0)), ("here", "ann", [0, 1]), ("here", "Ann", (0, 1)),
    ("here", "ann", (0, True)), ("here", "ann", (0, 1), ()), ("here", None, (0, 1)), ("kept", "ann", (0, 1)),
    ("kept", "ann", (0, 1), ()), ("kept", "ann", (0, 1), (), (), ()), ("kept", "ann", (0, 1), [], ()),
    ("kept", "ann", (0, 1), (), []), ("kept", "ann", (0, 1), ((1, 0), (0, 1)), ()), ("kept", "ann", (0,), (), ()),
    ("kept", "ann", (0, 1), ((0, 1), (0, 2)), ()), ("kept", "ann", (0, 1), ((0, -1),), ()),
    ("kept", "ann", (0, 1), (), ((0, 1),)), ("kept", "ann", (0, 1), (), ((0, 1, None),)),
    ("kept", "ann", (0, 1), (), ((0, 1, ()), (0, True, ()))),
]


def snapshot(thing):
    """A copy of plain things to compare with later; other objects stand for themselves."""
    if isinstance(thing, (list, tuple, dict, set)):
        return copy.deepcopy(thing)
    return thing


def same(one, other):
    """Whether two things are alike, also in their kinds (1 is not True)."""
    if type(one) is not type(other):
        return False
    if isinstance(one, (list, tuple)):
        return len(one) == len(other) and all(same(a, b) for a, b in zip(one, other))
    if isinstance(one, Other):
        return True
    return one == other


def check_refused(case, error, ask, *arguments):
    """The call is refused with just this class, and what was handed in is as it was."""
    before = [snapshot(argument) for argument in arguments]
    with case.assertRaises(error) as caught:
        ask(*arguments)
    case.assertIs(type(caught.exception), error)
    case.assertIsInstance(str(caught.exception), str)
    for argument, was in zip(arguments, before):
        case.assertTrue(same(argument, was))


def lists_within(thing):
    """All lists and dicts in a thing, itself too."""
    inner = []
    if isinstance(thing, (list, tuple)):
        inner = [found for part in thing for found in lists_within(part)]
    return inner + [thing] if isinstance(thing, (list, dict)) else inner


def check_own(case, told, others):
    """No list in what was told stands in it twice, or is one of the others."""
    found = [id(one) for one in lists_within(told)]
    case.assertEqual(len(found), len(set(found)))
    case.assertEqual([one for one in others if id(one) in found], [])


def check_told(case, due, ask, *arguments):
    """The call tells just this, twice, of the kind that is due, and leaves what was handed in as it was.

    Each list in what is told is a new one, and what is done to it changes nothing told later.
    """
    before = [snapshot(argument) for argument in arguments]
    lists = lists_within(arguments)
    for _ in range(2):
        told = ask(*arguments)
        # The message is made only where it is needed: very great numbers cannot be written out.
        if not same(told, due):
            case.fail(f"{ask.__name__}{arguments} told {told}, due is {due}")
        check_own(case, told, lists)
        lists += lists_within(told)
        for one in lists_within(told):
            one.clear()
    for argument, was in zip(arguments, before):
        case.assertTrue(same(argument, was))


class Outcomes(unittest.TestCase):
    def check(self, letters, given, ask, *arguments):
        """The outcome of a deed is a tuple of two new lists, just these."""
        told = ask(*arguments)
        # The message is made only where it is needed: very great numbers cannot be written out.
        if not same(told, (letters, given)):
            self.fail(f"{told} is not {(letters, given)}")
        check_own(self, told, lists_within(arguments))
        for one in told:
            one.clear()


def want(neighbour, *wishes):
    """The want letters that a neighbour is told."""
    return [(neighbour, ("want", wish)) for wish in wishes]


def unwant(neighbour, *wishes):
    return [(neighbour, ("unwant", wish)) for wish in wishes]


def wanted_by_words(wish, piece):
    """By the document's words, field by field."""
    for field, low, high in wish:
        found = [number for name, number in piece if name == field]
        if not found:
            return False
        if low is not None and found[0] < low or high is not None and found[0] > high:
            return False
    return True


@functools.lru_cache(maxsize=None)
def covers_once(one, other):
    """As covers, remembered: the models ask the same again and again."""
    return covers(one, other)


def greatest_by_words(wishes):
    unlike = list(dict.fromkeys(wishes))
    return in_order([w for w in unlike if not any(o != w and covers_once(o, w) for o in unlike)])


def is_count(thing):
    """Whether it is a whole number from 0 on."""
    return isinstance(thing, int) and not isinstance(thing, bool) and thing >= 0


def is_list_of_unlike_wishes(thing):
    return isinstance(thing, list) and all(is_wish(wish) for wish in thing) and len(set(thing)) == len(thing)


def is_way_by_words(thing):
    return is_letter(("here", "a", thing))


class HandByWords:
    def __init__(self, state, wishes=()):
        self.state, self.wishes, self.marks, self.kept = state, list(wishes), {}, []


class StopByWords:
    """A post (or, with moves, a stop) by the document's words: all that is to be said is found anew each time."""

    def __init__(self, number, near, moves=True):
        self.number, self.near, self.moves = number, list(near), moves
        self.all_hands, self.heard, self.count = {}, {n: [] for n in near}, 0

    # 22, 27: what it tells.

    def hands(self, state=None):
        return sorted(name for name, hand in self.all_hands.items() if state in (None, hand.state))

    def staying(self):
        return self.hands("staying")

    def leaving(self):
        return self.hands("leaving")

    def coming(self):
        return self.hands("coming")

    def wishes(self, hand):
        return in_order(self.here(hand).wishes)

    def marks(self, hand):
        return sorted(self.here(hand).marks.items())

    def known(self, neighbour):
        return in_order(self.heard[self.beside(neighbour)])

    def said(self, neighbour):
        self.beside(neighbour)
        others = [wish for n in self.near if n != neighbour for wish in self.heard[n]]
        return greatest_by_words([wish for hand in self.all_hands.values() for wish in hand.wishes] + others)

    def told(self):
        return self.count

    # 21, 27: what is refused.

    def here(self, hand):
        if not is_name(hand) or hand not in self.all_hands:
            raise errors.NoHand("")
        return self.all_hands[hand]

    def free(self, hand):
        found = self.here(hand)
        if found.state != "staying":
            raise errors.OnTheWay("")
        return found

    def new(self, hand):
        if not is_name(hand):
            raise errors.NoName("")
        if hand in self.all_hands:
            raise errors.Twice("")

    def beside(self, neighbour):
        if not is_count(neighbour) or neighbour not in self.near:
            raise errors.NoRoad("")
        return neighbour

    # 18 to 20, 24 to 26: the deeds.

    def behind(self, change):
        """19: what is put out behind a change."""
        before = {n: self.said(n) for n in self.near}
        change()
        letters = []
        for n in sorted(self.near):
            now, was = self.said(n), before.get(n, [])
            letters += [(n, ("want", wish)) for wish in now if wish not in was]
            letters += [(n, ("unwant", wish)) for wish in was if wish not in now]
        return letters

    def come(self, hand):
        self.new(hand)
        return self.behind(lambda: self.all_hands.update({hand: HandByWords("staying")})), []

    def go(self, hand):
        self.free(hand)
        return self.behind(lambda: self.all_hands.pop(hand)), []

    def want(self, hand, wish):
        found = self.free(hand)
        if not is_wish(wish):
            raise errors.NoWish("")
        if wish in found.wishes:
            raise errors.Twice("")
        return self.behind(lambda: found.wishes.append(wish)), []

    def unwant(self, hand, wish):
        found = self.free(hand)
        if not is_wish(wish) or wish not in found.wishes:
            raise errors.NotWanted("")
        return self.behind(lambda: found.wishes.remove(wish)), []

    def tell(self, piece):
        if not is_piece(piece):
            raise errors.NoPiece("")
        self.count += 1
        return self.news(None, self.number, self.count - 1, piece)

    def news(self, source, teller, number, piece):
        given = []
        for name in self.hands():
            hand = self.all_hands[name]
            if any(wanted_by_words(wish, piece) for wish in hand.wishes):
                if hand.state != "staying":
                    hand.kept.append((teller, number, piece))
                else:
                    given += self.give(name, teller, number, piece)
        out = [n for n in sorted(self.near) if n != source]
        out = [n for n in out if any(wanted_by_words(wish, piece) for wish in self.heard[n])]
        return [(n, ("news", teller, number, piece)) for n in out], given

    def give(self, name, teller, number, piece):
        marks = self.all_hands[name].marks
        if number <= marks.get(teller, -1):
            return []
        marks[teller] = number
        return [(name, teller, number, piece)]

    def grow(self, neighbour):
        if not is_count(neighbour) or neighbour == self.number or neighbour in self.near:
            raise errors.NoRoad("")

        def change():
            self.near.append(neighbour)
            self.heard[neighbour] = []

        return self.behind(change), []

    def leave(self, hand):
        self.free(hand).state = "leaving"
        return self.wishes(hand)

    def expect(self, hand, wishes, on):
        self.new(hand)
        if not is_list_of_unlike_wishes(wishes):
            raise errors.NoWish("")
        if not is_way_by_words(on) or on[0] != self.number or on[1] not in self.near:
            raise errors.NoRoad("")
        letters = self.behind(lambda: self.all_hands.update({hand: HandByWords("coming", wishes)}))
        return letters + [(on[1], ("here", hand, on))], []

    def hear(self, neighbour, letter):
        self.beside(neighbour)
        if not is_letter(letter):
            raise errors.NoLetter("")
        if letter[0] == "news":
            return self.news(neighbour, *letter[1:])
        if letter[0] in ("here", "kept"):
            return self.hear_of_hand(neighbour, letter)
        heard = self.heard[neighbour]
        if (letter[0] == "want") == (letter[1] in heard):
            raise errors.NoLetter("")
        change = heard.append if letter[0] == "want" else heard.remove
        return self.behind(lambda: change(letter[1])), []

    def hear_of_hand(self, neighbour, letter):
        name, on = letter[1], letter[2]
        if not self.moves or self.number not in on[1:] or on[on.index(self.number) - 1] != neighbour:
            raise errors.NoLetter("")
        beyond = on[on.index(self.number) + 1:]
        if beyond:
            if beyond[0] not in self.near:
                raise errors.NoLetter("")
            return [(beyond[0], letter)], []
        if name not in self.hands("leaving" if letter[0] == "here" else "coming"):
            raise errors.NoLetter("")
        hand = self.all_hands[name]
        if letter[0] == "here":
            answer = ("kept", name, tuple(reversed(on)), tuple(self.marks(name)), tuple(hand.kept))
            return self.behind(lambda: self.all_hands.pop(name)) + [(on[-2], answer)], []
        hand.state, hand.marks, pieces = "staying", dict(letter[3]), list(letter[4]) + hand.kept
        hand.kept = []
        return [], [one for piece in pieces for one in self.give(name, *piece)]


class RoadsByWords:
    """Roads by the document's words, of stops by its words."""

    def __init__(self, web=None):
        if web is not None and not is_web(web):
            raise errors.NoWeb("")
        self.tree = list(web or [])
        self.stops = [StopByWords(p, neighbours(self.tree, p)) for p in range(len(self.tree) + 1)]
        self.letters, self.places, self.gifts, self.run = {}, {}, {}, []

    def row(self, deed, post, outcome):
        out, given = outcome
        for n, letter in out:
            self.letters.setdefault((post, n), []).append(letter)
        for hand, *piece in given:
            self.gifts[hand].append(tuple(piece))
        self.run.append((deed, [(post, n, letter) for n, letter in out], list(given)))

    def check_post(self, post):
        if not is_count(post) or post >= len(self.stops):
            raise errors.NoPost("")

    def check_road(self, p, q):
        for post in (p, q):
            if not is_count(post) or post >= len(self.stops):
                raise errors.NoRoad("")
        if q not in neighbours(self.tree, p):
            raise errors.NoRoad("")

    def stop(self, hand, free=False):
        if not is_name(hand) or hand not in self.places:
            raise errors.NoHand("")
        if free and self.on_the_way(hand):
            raise errors.OnTheWay("")
        return self.stops[self.places[hand]]

    def come(self, hand, post):
        if not is_name(hand):
            raise errors.NoName("")
        if hand in self.places:
            raise errors.Twice("")
        self.check_post(post)
        if len(self.places) == 30:
            raise errors.Full("")
        self.places[hand], self.gifts[hand] = post, []
        self.row(("come", hand, post), post, self.stops[post].come(hand))

    def go(self, hand):
        stop = self.stop(hand, True)
        self.row(("go", hand), stop.number, stop.go(hand))
        del self.places[hand], self.gifts[hand]

    def want(self, hand, wish):
        stop = self.stop(hand, True)
        if not is_wish(wish):
            raise errors.NoWish("")
        if wish in stop.wishes(hand):
            raise errors.Twice("")
        if len(stop.wishes(hand)) == 10:
            raise errors.Full("")
        self.row(("want", hand, wish), stop.number, stop.want(hand, wish))

    def unwant(self, hand, wish):
        stop = self.stop(hand, True)
        self.row(("unwant", hand, wish), stop.number, stop.unwant(hand, wish))

    def tell(self, post, piece):
        self.check_post(post)
        outcome = self.stops[post].tell(piece)
        self.row(("tell", post, piece), post, outcome)
        return self.stops[post].told() - 1

    def move(self, hand, post):
        stop = self.stop(hand, True)
        self.check_post(post)
        outcome = [], []
        if post != stop.number:
            on = tuple(way(self.tree, post, stop.number))
            outcome = self.stops[post].expect(hand, stop.leave(hand), on)
            self.places[hand] = post
        self.row(("move", hand, post), post, outcome)

    def grow(self, post):
        self.check_post(post)
        if len(self.stops) == 24:
            raise errors.Full("")
        self.tree.append(post)
        self.stops.append(StopByWords(len(self.tree), [post]))
        self.row(("grow", post), post, self.stops[post].grow(len(self.tree)))
        return len(self.tree)

    def step(self, p, q):
        self.check_road(p, q)
        if not self.letters.get((p, q)):
            raise errors.NoLetter("")
        self.row(("step", p, q), q, self.stops[q].hear(p, self.letters[p, q].pop(0)))

    def rest(self, most=None):
        if most is not None and not is_count(most):
            raise errors.NoNumber("")
        steps = 0
        while self.lying() and steps != most:
            self.step(*self.lying()[0][:2])
            steps += 1
        return steps

    def web(self):
        return list(self.tree)

    def hands(self):
        return sorted(self.places)

    def where(self, hand):
        return self.stop(hand).number

    def on_the_way(self, hand):
        return hand in self.stop(hand).coming()

    def wishes(self, hand):
        return self.stop(hand).wishes(hand)

    def got(self, hand):
        self.stop(hand)
        return list(self.gifts[hand])

    def lying(self):
        return [(p, q, list(letters)) for (p, q), letters in sorted(self.letters.items()) if letters]

    def known(self, p, q):
        self.check_road(p, q)
        return self.stops[p].known(q)

    def said(self, p, q):
        self.check_road(p, q)
        return self.stops[p].said(q)

    def rows(self):
        return [(deed, list(letters), list(given)) for deed, letters, given in self.run]


def told_or_refused(ask, *arguments):
    """What a call tells, or the class of its refusal."""
    try:
        return ask(*arguments)
    except errors.NewsError as refusal:
        return type(refusal)


def roads_view(roads):
    """All that roads tell, for comparing."""
    web = roads.web()
    pairs = [(p, q) for p in range(len(web) + 1) for q in neighbours(web, p)]
    told = [web, roads.hands(), roads.lying(), roads.rows()]
    told += [[roads.where(h), roads.on_the_way(h), roads.wishes(h), roads.got(h)] for h in roads.hands()]
    return told + [[roads.known(p, q), roads.said(p, q)] for p, q in pairs]


SPANS = [(None, None), (None, 1), (0, None), (0, 0), (0, 1), (1, 1), (-1, 1), (1, 2), (0, 3)]


def some_wish(chance, fields="ab"):
    return tuple((field,) + chance.choice(SPANS) for field in fields if chance.random() < 0.6)


def some_piece(chance, fields="ab"):
    return tuple((field, chance.randrange(-1, 4)) for field in fields if chance.random() < 0.8)


def some_web(chance, most=7):
    return [chance.randrange(at + 1) for at in range(chance.randrange(most + 1))]


NAMES = ["ann", "ben", "cat", "dan", "eve"]


def some_call(chance, roads, names=NAMES):
    """A deed on roads, as its word and arguments, mostly one that is not refused."""
    lying = roads.lying()
    if lying and chance.random() < 0.5:
        return ("step",) + chance.choice(lying)[:2]
    free = [name for name in roads.hands() if not roads.on_the_way(name)]
    hand = chance.choice(free) if free and chance.random() < 0.9 else chance.choice(names)
    post = chance.randrange(len(roads.web()) + 1 + (chance.random() < 0.1))
    held = roads.wishes(hand) if hand in roads.hands() else []
    word = chance.choice(["come"] * 3 + ["want"] * 5 + ["unwant"] * 2 + ["tell"] * 6 + ["move"] * 5 + ["go", "grow"])
    if word == "come":
        return (word, chance.choice(names), post)
    if word == "want":
        return (word, hand, some_wish(chance))
    if word == "unwant":
        return (word, hand, chance.choice(held + [some_wish(chance)]))
    if word == "tell":
        return (word, post, some_piece(chance))
    if word == "move":
        return (word, hand, post)
    if word == "go":
        return (word, hand if chance.random() < 0.5 else "zed")
    return (word, post) if chance.random() < 0.3 else ("step", post, chance.randrange(6))


def do_call(roads, call):
    return told_or_refused(getattr(roads, call[0]), *call[1:])


def some_run(chance, roads, many):
    """Does some deeds on roads; told are those that were not refused."""
    done = []
    for _ in range(many):
        call = some_call(chance, roads)
        if not isinstance(do_call(roads, call), type):
            done.append(call)
    return done


def rest_in_any_order(chance, roads):
    """Steps until no letter lies anywhere, each on any road; told is how many."""
    steps = 0
    while roads.lying():
        roads.step(*chance.choice(roads.lying())[:2])
        steps += 1
    return steps


def still_moments(rows):
    """Whether each moment is still: that ahead of the first row, and behind each row in turn."""
    still, lying = [True], 0
    for deed, letters, given in rows:
        lying += len(letters) - (deed[0] == "step")
        still.append(lying == 0)
    return still


def wants_at_moments(rows):
    """The wishes of each hand that is there, at each moment."""
    moments = [{}]
    for deed, letters, given in rows:
        now = {hand: list(wishes) for hand, wishes in moments[-1].items()}
        if deed[0] == "come":
            now[deed[1]] = []
        elif deed[0] == "go":
            del now[deed[1]]
        elif deed[0] == "want":
            now[deed[1]].append(deed[2])
        elif deed[0] == "unwant":
            now[deed[1]].remove(deed[2])
        moments.append(now)
    return moments


def missing_by_words(web, rows):
    """38: what is missing, each still moment tried in turn."""
    still, wants = still_moments(rows), wants_at_moments(rows)
    deeds = [row[0] for row in rows]
    missing = []
    for at, (word, *rest) in enumerate(deeds):
        ends = [k for k in range(at + 1, len(rows) + 1) if still[k]]
        if word != "tell" or not ends:
            continue
        teller, piece = rest
        number = sum(1 for deed in deeds[:at] if deed[:2] == ("tell", teller))
        given = [one[:3] for row in rows[at:ends[0]] for one in row[2]]
        for hand in sorted({hand for now in wants for hand in now}):
            for j in [j for j in range(at + 1) if still[j] and hand in wants[j]]:
                there = len(web) + 1 + sum(1 for deed in deeds[:j] if deed[0] == "grow")
                ended = [deed[2] for deed in deeds[j:ends[0]] if deed[:2] == ("unwant", hand)]
                wished = [w for w in wants[j][hand] if wanted_by_words(w, piece) and w not in ended]
                gone = ("go", hand) in deeds[j:ends[0]]
                if teller < there and wished and not gone and (hand, teller, number) not in given:
                    missing.append((hand, teller, number))
                    break
    return missing


def out_of_order_by_words(rows):
    """38: the first row whose given breaks the order, each piece set against all those given since the hand came."""
    for at, row in enumerate(rows):
        for place, (hand, teller, number, piece) in enumerate(row[2]):
            coming = [k for k in range(at + 1) if rows[k][0][:2] == ("come", hand)]
            ahead = [one for k in range(coming[-1] if coming else 0, at) for one in rows[k][2]] + row[2][:place]
            if any(one[:2] == (hand, teller) and one[2] >= number for one in ahead):
                return at
    return None

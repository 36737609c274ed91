"""Promises 32 to 34, and of 2, 3 and 4 (c) what they say of still moments."""

import random
import unittest

from helper import GREATEST, NO_LISTS, NO_NAMES, NO_NUMBERS, NO_PIECES, NO_WEBS, NO_WISHES, Other
from helper import check_refused, check_told, nested, odd_things, rest_in_any_order, some_piece, some_web, some_wish
from newsways.errors import Full, NoHand, NoPiece, NoPost, NoRoad, NoStands, NotWanted, NoWeb, NoWish, Twice
from newsways.rests import known_at_rest, letters_of_unwant, letters_of_want, roads_crossed, who_gets
from newsways.roads import Roads
from newsways.webs import neighbours

A, B, AB = (("a", 1, 2),), (("b", 1, 2),), (("a", 1, 2), ("b", 1, 2))
WIDE, LOW, HIGH = (("a", 0, 9),), (("a", 0, 5),), (("a", 4, 9),)
ONE, BEE = (("a", 1),), (("b", 1),)
ALIKE_A = (("a", True, 2),)
# 2 - 0 - 1 - 3, and 4 at 1.
TREE = [0, 0, 1, 1]
STANDS = [("cat", 3, [B, A]), ("ann", 2, [LOW, HIGH]), ("ben", 4, []), ("dan", 1, [A])]
TEN = [(("a", low, 20),) for low in range(10)]

NO_STANDS = odd_things() + [
    (), (("ann", 0, []),), "", 0, GREATEST, nested(20), {}, {"ann": (0, [])}, [[]], [()], [("ann",)], [("ann", 0)],
    [("ann", 0, [], [])], [["ann", 0, []]], [(0, "ann", [])], [("ann", [], 0)], [("ann", 0, ())], [("ann", 0, (A,))],
    [("ann", 0, A)], [("ann", 0, {A})], [("ann", 0, [A, A])], [("ann", 0, [A, B, A])], [("ann", 0, [None])],
    [("ann", 0, [A, ALIKE_A])], [("ann", 0, None)], [("ann", 5, [])], [("ann", -1, [])], [("ann", True, [])],
    [("ann", None, [])], [("ann", "0", [])], [("ann", GREATEST, [])], [("ann", 0, []), ("ann", 0, [])],
    [("ann", 0, []), ("ben", 0, []), ("ann", 1, [A])], [("ann", 0, []), None], [("ann", 0, []), ("ben", 9, [])],
    [("ann", 0, TEN + [A])], [("ann", 0, TEN + [()])], [("ann", 0, []), ("ben", 0, TEN + [B, A])], [Other()],
    [(chr(97 + k // 26) + chr(97 + k % 26), 0, []) for k in range(31)],
] + [[(thing, 0, [])] for thing in NO_NAMES] + [[("ann", thing, [])] for thing in NO_NUMBERS]
NO_STANDS += [[("ann", 0, thing)] for thing in NO_LISTS] + [STANDS + [("eve", 0, thing)] for thing in NO_LISTS[::9]]

ASKED = [
    (known_at_rest, (0, 1)), (roads_crossed, (0, ONE)), (who_gets, (ONE,)), (letters_of_want, ("ben", A)),
    (letters_of_unwant, ("dan", A)),
]


def roads_at_rest(web, stands, chance=None):
    """Roads on which the hands came and want so, brought to rest."""
    roads = Roads(web)
    for hand, post, wishes in stands:
        roads.come(hand, post)
        for wish in wishes:
            roads.want(hand, wish)
    if chance is None:
        roads.rest()
    else:
        rest_in_any_order(chance, roads)
    return roads


def letters_since(roads, rows):
    return [letter for row in roads.rows()[rows:] for letter in row[1]]


def some_stands(chance, web, most=7):
    hands = chance.sample(["ann", "ben", "cat", "dan", "eve", "fay", "gus"], chance.randrange(most + 1))
    stands = []
    for hand in hands:
        wishes = list({some_wish(chance) for _ in range(chance.randrange(5))})
        stands.append((hand, chance.randrange(len(web) + 1), sorted(wishes, key=repr)))
    return stands


class Known(unittest.TestCase):
    """33: what post p knows then of its neighbour q."""

    def test_as_written(self):
        for p, q, due in (
            (0, 1, [A, B]), (1, 0, [LOW, HIGH]), (0, 2, [LOW, HIGH]), (2, 0, [A, B]), (1, 3, [A, B]), (1, 4, []),
            (3, 1, [LOW, HIGH]), (4, 1, [LOW, HIGH, B]),
        ):
            check_told(self, due, known_at_rest, TREE, STANDS, p, q)

    def test_nobody(self):
        for web in ([0], TREE):
            check_told(self, [], known_at_rest, web, [], 0, 1)
            check_told(self, [], known_at_rest, web, [("ann", 0, [A]), ("ben", 1, [])], 0, 1)

    def test_thirty_hands_of_ten_wishes(self):
        stands = [(chr(97 + k // 26) + chr(97 + k % 26), k % 5, TEN) for k in range(30)]
        check_told(self, [TEN[0]], known_at_rest, TREE, stands, 0, 1)


class Pieces(unittest.TestCase):
    """33: the roads that a piece crosses, and who is given it."""

    def test_as_written(self):
        for post, piece, due in (
            (2, ONE, [(0, 1), (1, 3), (2, 0)]), (0, ONE, [(0, 1), (0, 2), (1, 3)]), (2, BEE, [(0, 1), (1, 3), (2, 0)]),
            (3, BEE, []), (3, ONE, [(0, 2), (1, 0), (3, 1)]), (4, ONE, [(0, 2), (1, 0), (1, 3), (4, 1)]),
            (4, (("a", 7),), [(0, 2), (1, 0), (4, 1)]), (0, (), []), (4, (("c", 1),), []),
        ):
            check_told(self, due, roads_crossed, TREE, STANDS, post, piece)
        for piece, due in ((ONE, ["ann", "cat", "dan"]), (BEE, ["cat"]), ((("a", 7),), ["ann"]), ((), [])):
            check_told(self, due, who_gets, TREE, STANDS, piece)

    def test_by_two_wishes_and_for_two_hands_once(self):
        stands = [("ben", 1, [A, LOW, ()]), ("ann", 1, [A])]
        check_told(self, [(0, 1)], roads_crossed, [0], stands, 0, ONE)
        check_told(self, ["ann", "ben"], who_gets, [0], stands, ONE)

    def test_one_post(self):
        check_told(self, [], roads_crossed, [], [("ann", 0, [A])], 0, ONE)
        check_told(self, ["ann"], who_gets, [], [("ann", 0, [A])], ONE)


class Letters(unittest.TestCase):
    """34: how many letters one wish more or fewer makes."""

    def test_as_written(self):
        # From 2 to 0, 1, 3 and 4; LOW and HIGH are said no more.
        check_told(self, (4, 8), letters_of_want, TREE, STANDS, "ann", WIDE)
        check_told(self, (0, 0), letters_of_want, TREE, STANDS, "ann", A)
        # From 2 to 0 alone: from there on it is said already.
        check_told(self, (1, 0), letters_of_want, TREE, [("ann", 2, []), ("ben", 0, [A])], "ann", A)
        check_told(self, (0, 0), letters_of_want, TREE, STANDS, "dan", AB)
        check_told(self, (0, 0), letters_of_want, [], [("ann", 0, [])], "ann", A)
        check_told(self, (0, 1), letters_of_unwant, [0], [("ann", 0, [A])], "ann", A)
        check_told(self, (1, 1), letters_of_unwant, [0], [("ann", 0, [LOW, A])], "ann", LOW)
        check_told(self, (0, 0), letters_of_unwant, [0], [("ann", 0, [LOW, A])], "ann", A)
        check_told(self, (8, 4), letters_of_unwant, TREE, STANDS + [("eve", 2, [WIDE])], "eve", WIDE)

    def test_alike_wishes_of_two_hands(self):
        for post, want, unwant in ((0, (0, 0), (0, 0)), (1, (1, 0), (0, 1))):
            stands = [("ann", 0, [A]), ("ben", post, [])]
            check_told(self, want, letters_of_want, [0], stands, "ben", A)
            check_told(self, unwant, letters_of_unwant, [0], [("ann", 0, [A]), ("ben", post, [A])], "ben", A)

    def test_twenty_four_posts(self):
        for web in ([0] * 23, list(range(23))):
            check_told(self, (23, 23 * 2), letters_of_want, web, [("ann", 5, [LOW, HIGH])], "ann", ())
            check_told(self, (23 * 2, 23), letters_of_unwant, web, [("ann", 5, [LOW, HIGH, ()])], "ann", ())

    def test_nine_wishes_and_ten(self):
        check_told(self, (1, 1), letters_of_want, [0], [("ann", 0, TEN[1:])], "ann", TEN[0])
        check_told(self, (1, 1), letters_of_unwant, [0], [("ann", 0, TEN)], "ann", TEN[0])


class Refused(unittest.TestCase):
    """32 to 34, 3: each refusal, of anything, in its order."""

    def test_no_web_goes_ahead_of_all_else(self):
        for thing in NO_WEBS:
            for ask, arguments in ASKED:
                check_refused(self, NoWeb, ask, thing, [], *arguments)
                check_refused(self, NoWeb, ask, thing, None, *arguments)

    def test_no_stands_goes_ahead_of_the_rest(self):
        for thing in NO_STANDS:
            for ask, arguments in ASKED:
                check_refused(self, NoStands, ask, TREE, thing, *arguments)
        for ask, arguments in ASKED:
            check_refused(self, NoStands, ask, TREE, None, *[None] * len(arguments))

    def test_no_stands_hangs_on_the_web(self):
        check_refused(self, NoStands, who_gets, [], [("ann", 1, [])], ONE)
        check_told(self, [], who_gets, [0], [("ann", 1, [])], ONE)

    def test_as_many_as_there_may_be(self):
        stands = [(chr(97 + k // 26) + chr(97 + k % 26), 0, TEN[::-1]) for k in range(30)]
        check_told(self, sorted(stand[0] for stand in stands), who_gets, [], stands, (("a", 20),))

    def test_no_road(self):
        for thing in NO_NUMBERS + [5, 24, GREATEST]:
            check_refused(self, NoRoad, known_at_rest, TREE, STANDS, thing, 0)
            check_refused(self, NoRoad, known_at_rest, TREE, STANDS, 0, thing)
            check_refused(self, NoRoad, known_at_rest, TREE, STANDS, thing, thing)
        for p, q in ((0, 0), (0, 3), (4, 3), (2, 1)):
            check_refused(self, NoRoad, known_at_rest, TREE, STANDS, p, q)

    def test_no_post_then_no_piece(self):
        for thing in NO_NUMBERS + [5, 24, GREATEST]:
            check_refused(self, NoPost, roads_crossed, TREE, STANDS, thing, ONE)
            check_refused(self, NoPost, roads_crossed, TREE, STANDS, thing, None)
        for thing in NO_PIECES:
            check_refused(self, NoPiece, roads_crossed, TREE, STANDS, 0, thing)
            check_refused(self, NoPiece, who_gets, TREE, STANDS, thing)

    def test_no_hand(self):
        for thing in NO_NAMES + ["eve", "an"]:
            for ask in (letters_of_want, letters_of_unwant):
                check_refused(self, NoHand, ask, TREE, STANDS, thing, A)
                check_refused(self, NoHand, ask, TREE, STANDS, thing, None)
                check_refused(self, NoHand, ask, TREE, [], thing, A)

    def test_no_wish_then_twice_then_full(self):
        full = STANDS + [("eve", 0, TEN)]
        for thing in NO_WISHES + [ALIKE_A]:
            check_refused(self, NoWish, letters_of_want, TREE, full, "dan", thing)
            check_refused(self, NoWish, letters_of_want, TREE, full, "eve", thing)
        for wish in TEN:
            check_refused(self, Twice, letters_of_want, TREE, full, "eve", wish)
        check_refused(self, Twice, letters_of_want, TREE, full, "dan", A)
        for wish in (A, (), B):
            check_refused(self, Full, letters_of_want, TREE, full, "eve", wish)

    def test_not_wanted(self):
        for thing in NO_WISHES + [ALIKE_A, B, (), LOW]:
            check_refused(self, NotWanted, letters_of_unwant, TREE, STANDS, "dan", thing)


class AgainstRoads(unittest.TestCase):
    """Against roads on which the same is done and brought to rest, in any order."""

    def test_known(self):
        for seed in range(60):
            chance = random.Random(seed)
            web = some_web(chance)
            stands = some_stands(chance, web)
            roads = roads_at_rest(web, stands, chance)
            for p in range(len(web) + 1):
                for q in neighbours(web, p):
                    self.assertEqual(known_at_rest(web, stands, p, q), roads.known(p, q))

    def test_pieces(self):
        for seed in range(60):
            chance = random.Random(seed)
            web = some_web(chance)
            stands = some_stands(chance, web)
            roads = roads_at_rest(web, stands)
            for _ in range(6):
                rows, post, piece = len(roads.rows()), chance.randrange(len(web) + 1), some_piece(chance)
                roads.tell(post, piece)
                rest_in_any_order(chance, roads)
                crossed = [letter[:2] for letter in letters_since(roads, rows)]
                self.assertEqual(roads_crossed(web, stands, post, piece), sorted(crossed))
                given = [one[0] for row in roads.rows()[rows:] for one in row[2]]
                self.assertEqual(who_gets(web, stands, piece), sorted(given))

    def test_letters(self):
        some = 0
        for seed in range(150):
            chance = random.Random(seed)
            web = some_web(chance)
            stands = some_stands(chance, web)
            for hand, post, wishes in stands:
                wish = chance.choice(wishes + [some_wish(chance)])
                word, ask = ("unwant", letters_of_unwant) if wish in wishes else ("want", letters_of_want)
                roads = roads_at_rest(web, stands)
                rows = len(roads.rows())
                getattr(roads, word)(hand, wish)
                rest_in_any_order(chance, roads)
                words = [letter[2][0] for letter in letters_since(roads, rows)]
                due = (words.count("want"), words.count("unwant"))
                self.assertEqual(ask(web, stands, hand, wish), due, (web, stands, hand, wish))
                some += min(due) > 0
        self.assertGreater(some, 30)


if __name__ == "__main__":
    unittest.main()

"""Promises 28 to 31, of 36 what a row of a run is, and of 2 and 3 what they say of roads."""

import random
import unittest

from helper import GREATEST, NO_NAMES, NO_NUMBERS, NO_PIECES, NO_WEBS, NO_WISHES, RoadsByWords
from helper import check_own, check_refused, check_told, do_call, lists_within, roads_view, same
from helper import rest_in_any_order, some_call, some_web
from newsways.errors import Full, NoHand, NoLetter, NoName, NoNumber, NoPiece, NoPost, NoRoad, NotWanted, NoWeb, NoWish
from newsways.errors import OnTheWay, Twice
from newsways.roads import Roads

A, B, AB = (("a", 1, 2),), (("b", 1, 2),), (("a", 1, 2), ("b", 1, 2))
WIDE, LOW, HIGH = (("a", 0, 9),), (("a", 0, 5),), (("a", 4, 9),)
ONE, TWO, BEE = (("a", 1),), (("a", 2),), (("b", 1),)
# Not a wish, but alike to A for ==.
ALIKE_A = (("a", True, 2),)
TREE = [0, 0, 1]
THIRTY = [first + second for first in "abcde" for second in "uvwxyz"]


def some_roads():
    """Roads on the tree 2 - 0 - 1 - 3: ann stays at 3, ben moves from 0 to 3, cat stays at 2."""
    roads = Roads(TREE)
    for hand, post, wishes in (("ann", 3, [A, B]), ("ben", 0, [LOW]), ("cat", 2, [])):
        roads.come(hand, post)
        for wish in wishes:
            roads.want(hand, wish)
    roads.rest()
    roads.tell(2, ONE)
    roads.rest()
    roads.move("ben", 3)
    roads.tell(0, TWO)
    roads.step(3, 1)
    return roads


class Lying(unittest.TestCase):
    """28: what lies on each road in each direction."""

    def test_nothing_at_first(self):
        for web in ([], [0], TREE, [0] * 23, list(range(23))):
            roads = Roads(web)
            check_told(self, [], roads.lying)
            check_told(self, web, roads.web)
            check_told(self, [], roads.hands)
            check_told(self, [], roads.rows)
            check_told(self, 0, roads.rest)

    def test_of_one_post(self):
        for roads in (Roads(), Roads(None), Roads(web=None), Roads([]), Roads(web=[])):
            check_told(self, [], roads.web)
            roads.come("ann", 0)
            roads.want("ann", A)
            self.assertEqual(roads.tell(0, ONE), 0)
            check_told(self, [(0, 0, ONE)], roads.got, "ann")
            check_told(self, [], roads.lying)
            check_refused(self, NoPost, roads.come, "ben", 1)

    def test_behind_what_lies_there_in_that_direction(self):
        roads = Roads(TREE)
        roads.come("ann", 0)
        roads.want("ann", A)
        roads.want("ann", B)
        two = [("want", A), ("want", B)]
        check_told(self, [(0, 1, two), (0, 2, two)], roads.lying)
        roads.come("ben", 1)
        roads.want("ben", LOW)
        check_told(self, [(0, 1, two), (0, 2, two), (1, 0, [("want", LOW)]), (1, 3, [("want", LOW)])], roads.lying)
        roads.step(1, 0)
        two_more = two + [("want", LOW), ("unwant", A)]
        check_told(self, [(0, 1, two), (0, 2, two_more), (1, 3, [("want", LOW)])], roads.lying)
        roads.step(0, 1)
        check_told(self, [(0, 1, two[1:]), (0, 2, two_more), (1, 3, [("want", LOW)])], roads.lying)
        roads.unwant("ann", B)
        check_told(self, [(0, 1, two[1:] + [("unwant", B)]), (0, 2, two_more + [("unwant", B)]),
                          (1, 3, [("want", LOW)])], roads.lying)

    def test_the_first_letter_is_heard(self):
        roads = Roads([0])
        roads.come("ann", 1)
        for wish in (A, B, LOW):
            roads.want("ann", wish)
        for known in ([A], [A, B], [LOW, A, B], [LOW, B]):
            self.assertIsNone(roads.step(1, 0))
            check_told(self, known, roads.known, 0, 1)
        check_told(self, [], roads.lying)
        check_told(self, [LOW, B], roads.said, 1, 0)
        check_told(self, [], roads.known, 1, 0)
        check_told(self, [], roads.said, 0, 1)

    def test_roads_by_p_then_q(self):
        roads = Roads([0] * 12)
        roads.come("ann", 0)
        roads.want("ann", A)
        roads.come("ben", 11)
        roads.want("ben", B)
        roads.come("cat", 3)
        roads.want("cat", B)
        self.assertEqual([road[:2] for road in roads.lying()], [(0, q) for q in range(1, 13)] + [(3, 0), (11, 0)])

    def test_what_is_known_and_said_of_each_neighbour(self):
        roads = Roads(TREE)
        roads.come("ann", 3)
        roads.want("ann", A)
        check_told(self, [A], roads.said, 3, 1)
        check_told(self, [], roads.known, 1, 3)
        roads.rest()
        for p, q in ((1, 3), (0, 1), (2, 0)):
            check_told(self, [A], roads.known, p, q)
            check_told(self, [], roads.known, q, p)
            check_told(self, [A], roads.said, q, p)
            check_told(self, [], roads.said, p, q)


class Rests(unittest.TestCase):
    """28: steps until no letter lies anywhere, or so many at the most."""

    def busy(self):
        roads = Roads(TREE)
        roads.come("ann", 3)
        roads.want("ann", A)
        roads.come("ben", 2)
        roads.want("ben", B)
        roads.want("ben", HIGH)
        return roads

    def test_from_the_least_to_the_least(self):
        roads = self.busy()
        told = roads.rest()
        self.assertIs(type(told), int)
        # Those from 2 lie to 0 and are heard ahead of that from 3; what is heard at 0 and 1 goes on at once.
        self.assertEqual([row[0] for row in roads.rows()[5:]], [
            ("step", 2, 0), ("step", 0, 1), ("step", 1, 3), ("step", 2, 0), ("step", 0, 1), ("step", 1, 3),
            ("step", 3, 1), ("step", 1, 0), ("step", 0, 2),
        ])
        self.assertEqual(told, 9)
        check_told(self, [], roads.lying)
        check_told(self, 0, roads.rest)

    def test_of_these_to_the_least(self):
        roads = Roads([0, 0, 0])
        roads.come("ann", 0)
        for wish in (A, B):
            roads.want("ann", wish)
        self.assertEqual(roads.rest(), 6)
        self.assertEqual([row[0][1:] for row in roads.rows()[3:]], [(0, 1), (0, 1), (0, 2), (0, 2), (0, 3), (0, 3)])

    def test_bounds(self):
        for most in range(12):
            for ask in (lambda roads: roads.rest(most), lambda roads: roads.rest(most=most)):
                roads = self.busy()
                self.assertEqual(ask(roads), min(most, 9))
                whole = self.busy()
                whole.rest(None)
                self.assertEqual(roads.rows(), whole.rows()[:5 + most])
                self.assertEqual(roads.rest(), 9 - min(most, 9))
                self.assertEqual(roads_view(roads), roads_view(whole))

    def test_none_and_great_bounds(self):
        for most in (None, 9, 10, 99999, GREATEST):
            self.assertEqual(self.busy().rest(most), 9)
        self.assertEqual(self.busy().rest(0), 0)

    def test_no_number(self):
        for thing in NO_NUMBERS:
            if thing is not None:
                roads = self.busy()
                before = roads_view(roads)
                check_refused(self, NoNumber, roads.rest, thing)
                self.assertEqual(roads_view(roads), before)


class Deeds(unittest.TestCase):
    """29, 31: the deeds, and what is told."""

    def test_most_tell_nothing(self):
        roads = Roads([0])
        told = [roads.come("ann", 1), roads.want("ann", A), roads.unwant("ann", A), roads.want("ann", B)]
        told += [roads.step(1, 0), roads.move("ann", 1), roads.move("ann", 0)]
        roads.rest()
        self.assertEqual(told + [roads.go("ann")], [None] * 8)

    def test_hands(self):
        roads = Roads(TREE)
        for hand, post in (("cat", 2), ("ann", 0), ("ben", 3)):
            roads.come(hand, post)
        check_told(self, ["ann", "ben", "cat"], roads.hands)
        for hand, post in (("cat", 2), ("ann", 0), ("ben", 3)):
            check_told(self, post, roads.where, hand)
            check_told(self, False, roads.on_the_way, hand)
            check_told(self, [], roads.wishes, hand)
            check_told(self, [], roads.got, hand)
        roads.go("ben")
        check_told(self, ["ann", "cat"], roads.hands)

    def test_tell_tells_the_number(self):
        roads = Roads([0])
        for number in range(3):
            self.assertTrue(same(roads.tell(0, ONE), number))
            self.assertTrue(same(roads.tell(1, ONE), number))
        self.assertTrue(same(roads.tell(0, ()), 3))

    def test_pieces_go_where_they_are_wanted(self):
        roads = Roads(TREE)
        roads.come("ann", 3)
        roads.come("ben", 2)
        roads.want("ann", A)
        roads.want("ben", B)
        roads.rest()
        roads.tell(1, ONE)
        roads.tell(1, BEE)
        roads.tell(1, (("a", 1), ("b", 1)))
        roads.tell(1, ())
        both = (("a", 1), ("b", 1))
        check_told(self, [(1, 0, [("news", 1, 1, BEE), ("news", 1, 2, both)]),
                          (1, 3, [("news", 1, 0, ONE), ("news", 1, 2, both)])], roads.lying)
        check_told(self, [], roads.got, "ann")
        roads.rest()
        check_told(self, [(1, 0, ONE), (1, 2, both)], roads.got, "ann")
        check_told(self, [(1, 1, BEE), (1, 2, both)], roads.got, "ben")

    def test_a_hand_that_comes_again_is_a_new_one(self):
        roads = Roads([0])
        roads.come("ann", 0)
        roads.want("ann", A)
        roads.tell(0, ONE)
        check_told(self, [(0, 0, ONE)], roads.got, "ann")
        roads.go("ann")
        check_refused(self, NoHand, roads.got, "ann")
        roads.come("ann", 1)
        check_told(self, [], roads.got, "ann")
        check_told(self, [], roads.wishes, "ann")
        check_told(self, 1, roads.where, "ann")
        roads.tell(0, ONE)
        roads.rest()
        check_told(self, [], roads.got, "ann")
        roads.want("ann", LOW)
        roads.rest()
        roads.tell(0, TWO)
        roads.rest()
        check_told(self, [(0, 2, TWO)], roads.got, "ann")

    def test_grow(self):
        roads = Roads([0])
        roads.come("ann", 0)
        roads.want("ann", A)
        roads.want("ann", B)
        roads.rest()
        self.assertTrue(same(roads.grow(0), 2))
        check_told(self, [0, 0], roads.web)
        check_told(self, [(0, 2, [("want", A), ("want", B)])], roads.lying)
        check_told(self, [], roads.known, 2, 0)
        check_told(self, [A, B], roads.said, 0, 2)
        self.assertTrue(same(roads.grow(2), 3))
        check_told(self, [0, 0, 2], roads.web)
        roads.rest()
        check_told(self, [A, B], roads.known, 3, 2)
        self.assertEqual(roads.tell(3, ONE), 0)
        roads.rest()
        check_told(self, [(3, 0, ONE)], roads.got, "ann")
        roads.move("ann", 3)
        roads.rest()
        check_told(self, [A, B], roads.known, 1, 0)
        check_told(self, [], roads.known, 3, 2)

    def test_the_web_handed_in_is_a_copy(self):
        web = [0, 1]
        roads = Roads(web)
        web.append(0)
        check_told(self, [0, 1], roads.web)
        roads.grow(2)
        self.assertEqual(web, [0, 1, 0])


class Moves(unittest.TestCase):
    """29: a hand moves."""

    def test_a_move_step_by_step(self):
        roads = Roads(TREE)
        roads.come("ann", 3)
        roads.want("ann", A)
        roads.rest()
        roads.tell(3, ONE)
        roads.move("ann", 0)
        check_told(self, 0, roads.where, "ann")
        check_told(self, True, roads.on_the_way, "ann")
        check_told(self, [A], roads.wishes, "ann")
        check_told(self, [(0, 1, [("want", A), ("here", "ann", (0, 1, 3))])], roads.lying)
        roads.step(0, 1)
        check_told(self, [(0, 1, [("here", "ann", (0, 1, 3))]), (1, 3, [("want", A)])], roads.lying)
        roads.tell(3, TWO)
        roads.step(1, 3)
        roads.tell(3, TWO)
        roads.step(0, 1)
        roads.step(1, 3)
        kept = ("kept", "ann", (3, 1, 0), ((3, 0),), ((3, 1, TWO), (3, 2, TWO)))
        check_told(self, [(3, 1, [("news", 3, 2, TWO), ("unwant", A), kept])], roads.lying)
        check_told(self, [(3, 0, ONE)], roads.got, "ann")
        self.assertEqual(roads.rest(3), 3)
        check_told(self, True, roads.on_the_way, "ann")
        roads.rest()
        check_told(self, False, roads.on_the_way, "ann")
        check_told(self, [(3, 0, ONE), (3, 1, TWO), (3, 2, TWO)], roads.got, "ann")
        check_told(self, [A], roads.known, 2, 0)
        check_told(self, [], roads.known, 0, 1)
        check_told(self, [A], roads.known, 3, 1)

    def test_to_the_post_where_it_stands(self):
        roads = Roads(TREE)
        roads.come("ann", 3)
        roads.want("ann", A)
        roads.tell(3, ONE)
        before = roads_view(roads)
        roads.move("ann", 3)
        check_told(self, before[3] + [(("move", "ann", 3), [], [])], roads.rows)
        after = roads_view(roads)
        self.assertEqual(after[:3] + after[4:], before[:3] + before[4:])
        check_told(self, False, roads.on_the_way, "ann")
        roads.tell(3, TWO)
        check_told(self, [(3, 0, ONE), (3, 1, TWO)], roads.got, "ann")

    def test_while_others_move(self):
        roads = Roads(TREE)
        for hand, post in (("ann", 3), ("ben", 2), ("cat", 3)):
            roads.come(hand, post)
            roads.want(hand, A)
        roads.rest()
        roads.move("ann", 2)
        roads.move("ben", 3)
        roads.tell(0, ONE)
        roads.move("cat", 1)
        roads.tell(1, TWO)
        roads.rest()
        for hand, post in (("ann", 2), ("ben", 3), ("cat", 1)):
            check_told(self, post, roads.where, hand)
            check_told(self, False, roads.on_the_way, hand)
            self.assertEqual(sorted(roads.got(hand)), [(0, 0, ONE), (1, 0, TWO)])

    def test_there_and_back(self):
        roads = Roads([0])
        roads.come("ann", 0)
        roads.want("ann", A)
        for number in range(4):
            roads.move("ann", 1 - number % 2)
            roads.tell(0, ONE)
            roads.rest()
            check_told(self, [(0, n, ONE) for n in range(number + 1)], roads.got, "ann")

    def test_a_hand_without_wishes(self):
        roads = Roads(TREE)
        roads.come("ann", 2)
        roads.move("ann", 3)
        check_told(self, [(3, 1, [("here", "ann", (3, 1, 0, 2))])], roads.lying)
        self.assertEqual(roads.rest(), 6)
        check_told(self, False, roads.on_the_way, "ann")
        roads.want("ann", A)
        check_told(self, [A], roads.wishes, "ann")

    def test_to_a_post_that_grew(self):
        roads = Roads()
        roads.come("ann", 0)
        roads.want("ann", A)
        roads.move("ann", roads.grow(0))
        roads.tell(0, ONE)
        roads.rest()
        check_told(self, [(0, 0, ONE)], roads.got, "ann")
        check_told(self, 1, roads.where, "ann")


class Rows(unittest.TestCase):
    """36: a row for each deed that was not refused, a rest as its steps."""

    def test_each_deed(self):
        roads = Roads([0])
        roads.come("ann", 0)
        roads.come("ben", 1)
        roads.want("ann", A)
        roads.want("ben", LOW)
        roads.tell(0, ONE)
        roads.rest()
        roads.unwant("ben", LOW)
        roads.grow(1)
        roads.step(1, 0)
        roads.move("ann", 2)
        roads.move("ben", 1)
        roads.go("ben")
        due = [
            (("come", "ann", 0), [], []), (("come", "ben", 1), [], []),
            (("want", "ann", A), [(0, 1, ("want", A))], []),
            (("want", "ben", LOW), [(1, 0, ("want", LOW))], []),
            (("tell", 0, ONE), [], [("ann", 0, 0, ONE)]),
            (("step", 0, 1), [], []), (("step", 1, 0), [], []),
            (("unwant", "ben", LOW), [(1, 0, ("unwant", LOW))], []),
            (("grow", 1), [(1, 2, ("want", A))], []),
            (("step", 1, 0), [], []),
            (("move", "ann", 2), [(2, 1, ("want", A)), (2, 1, ("here", "ann", (2, 1, 0)))], []),
            (("move", "ben", 1), [], []), (("go", "ben"), [], []),
        ]
        check_told(self, due, roads.rows)
        roads.rest()
        due += [
            (("step", 1, 2), [], []),
            (("step", 2, 1), [(1, 0, ("want", A))], []), (("step", 1, 0), [], []),
            (("step", 2, 1), [(1, 0, ("here", "ann", (2, 1, 0)))], []),
            (("step", 1, 0), [(0, 1, ("unwant", A)), (0, 1, ("kept", "ann", (0, 1, 2), ((0, 0),), ()))], []),
            (("step", 0, 1), [(1, 2, ("unwant", A))], []),
            (("step", 0, 1), [(1, 2, ("kept", "ann", (0, 1, 2), ((0, 0),), ()))], []),
            (("step", 1, 2), [], []), (("step", 1, 2), [], []),
        ]
        check_told(self, due, roads.rows)
        roads.tell(1, ONE)
        roads.step(1, 2)
        due += [(("tell", 1, ONE), [(1, 2, ("news", 1, 0, ONE))], []), (("step", 1, 2), [], [("ann", 1, 0, ONE)])]
        check_told(self, due, roads.rows)

    def test_what_was_given_to_hands_that_went_stays_in_the_rows(self):
        roads = Roads()
        roads.come("ann", 0)
        roads.want("ann", A)
        roads.tell(0, ONE)
        roads.go("ann")
        self.assertEqual(roads.rows()[2:], [(("tell", 0, ONE), [], [("ann", 0, 0, ONE)]), (("go", "ann"), [], [])])


class Refused(unittest.TestCase):
    """30, 3: each refusal, of anything, in its order; it changes nothing and keeps no row."""

    def setUp(self):
        self.roads = some_roads()
        self.before = roads_view(self.roads)

    def check(self, error, name, *arguments):
        check_refused(self, error, getattr(self.roads, name), *arguments)
        self.assertTrue(same(roads_view(self.roads), self.before))

    def tearDown(self):
        """What was refused changed nothing that is not told, either."""
        other = some_roads()
        for roads in (self.roads, other):
            roads.tell(3, ONE)
            roads.rest()
            roads.move("ann", 2)
            roads.rest()
        self.assertEqual(roads_view(self.roads), roads_view(other))

    def test_no_web(self):
        for thing in NO_WEBS:
            if thing is not None:
                check_refused(self, NoWeb, Roads, thing)

    def test_come(self):
        for thing in NO_NAMES:
            for post in (0, 9, None):
                self.check(NoName, "come", thing, post)
        for hand in ("ann", "ben", "cat"):
            for post in (0, 3, 9, -1, None, True, "0"):
                self.check(Twice, "come", hand, post)
        for thing in NO_NUMBERS + [4, 5, 24, GREATEST]:
            self.check(NoPost, "come", "dan", thing)

    def test_no_hand(self):
        for thing in NO_NAMES + ["dan", "an", "annn"]:
            for name in ("go", "where", "on_the_way", "wishes", "got"):
                self.check(NoHand, name, thing)
            self.check(NoHand, "want", thing, None)
            self.check(NoHand, "unwant", thing, None)
            self.check(NoHand, "move", thing, None)

    def test_on_the_way(self):
        self.check(OnTheWay, "go", "ben")
        for wish in (A, LOW, (), None, []):
            self.check(OnTheWay, "want", "ben", wish)
            self.check(OnTheWay, "unwant", "ben", wish)
        for post in (0, 1, 3, 9, None):
            self.check(OnTheWay, "move", "ben", post)

    def test_want_and_unwant(self):
        for thing in NO_WISHES:
            self.check(NoWish, "want", "ann", thing)
            self.check(NotWanted, "unwant", "ann", thing)
        self.check(NoWish, "want", "ann", ALIKE_A)
        self.check(NotWanted, "unwant", "ann", ALIKE_A)
        for wish in (A, B):
            self.check(Twice, "want", "ann", wish)
            self.check(NotWanted, "unwant", "cat", wish)
        for wish in (LOW, WIDE, (), AB):
            self.check(NotWanted, "unwant", "ann", wish)

    def test_tell(self):
        for thing in NO_NUMBERS + [4, 5, 24, GREATEST]:
            self.check(NoPost, "tell", thing, ONE)
            self.check(NoPost, "tell", thing, None)
        for thing in NO_PIECES:
            self.check(NoPiece, "tell", 0, thing)

    def test_move_and_grow(self):
        for thing in NO_NUMBERS + [4, 5, 24, GREATEST]:
            self.check(NoPost, "move", "ann", thing)
            self.check(NoPost, "grow", thing)

    def test_no_road(self):
        for name in ("step", "known", "said"):
            for thing in NO_NUMBERS + [4, 5, 24, GREATEST]:
                self.check(NoRoad, name, thing, 0)
                self.check(NoRoad, name, 0, thing)
                self.check(NoRoad, name, thing, thing)
            for p, q in ((0, 0), (3, 3), (0, 3), (3, 0), (1, 2), (2, 1), (3, 2)):
                self.check(NoRoad, name, p, q)

    def test_no_letter_lies_there(self):
        lying = [road[:2] for road in self.roads.lying()]
        free = [road for road in ((0, 1), (1, 0), (0, 2), (2, 0), (1, 3), (3, 1)) if road not in lying]
        self.assertTrue(lying and free)
        for p, q in free:
            self.check(NoLetter, "step", p, q)


class RefusedAsFull(unittest.TestCase):
    def check(self, roads, error, name, *arguments):
        before = roads_view(roads)
        check_refused(self, error, getattr(roads, name), *arguments)
        self.assertEqual(roads_view(roads), before)

    def test_thirty_hands(self):
        roads = Roads([0, 0])
        for place, hand in enumerate(THIRTY):
            roads.come(hand, place % 3)
        roads.move("au", 1)
        roads.move("ez", 0)
        self.check(roads, Full, "come", "zed", 0)
        self.check(roads, NoPost, "come", "zed", 3)
        self.check(roads, NoPost, "come", "zed", None)
        self.check(roads, Twice, "come", "au", 3)
        self.check(roads, NoName, "come", "Zed", 3)
        roads.rest()
        self.check(roads, Full, "come", "zed", 0)
        roads.go("au")
        roads.come("zed", 0)
        self.check(roads, Full, "come", "au", 0)

    def test_ten_wishes(self):
        roads = Roads([0])
        roads.come("ann", 0)
        wishes = [(("a", low, 20),) for low in range(10)]
        for wish in wishes:
            roads.want("ann", wish)
        self.check(roads, Full, "want", "ann", ())
        self.check(roads, Twice, "want", "ann", wishes[4])
        self.check(roads, NoWish, "want", "ann", None)
        roads.move("ann", 1)
        self.check(roads, OnTheWay, "want", "ann", ())
        roads.rest()
        check_told(self, wishes, roads.wishes, "ann")
        self.check(roads, Full, "want", "ann", ())
        roads.unwant("ann", wishes[4])
        roads.want("ann", ())
        self.check(roads, Full, "want", "ann", wishes[4])

    def test_twenty_four_posts(self):
        roads = Roads([0] * 22)
        self.assertEqual(roads.grow(22), 23)
        check_told(self, [0] * 22 + [22], roads.web)
        for post in range(24):
            self.check(roads, Full, "grow", post)
        for thing in NO_NUMBERS + [24, 99]:
            self.check(roads, NoPost, "grow", thing)
        self.check(Roads([0] * 23), Full, "grow", 0)


class ByWords(unittest.TestCase):
    """Random deeds, right and wrong ones, against roads by the document's words."""

    def test_many(self):
        done = {}
        for seed in range(60):
            chance = random.Random(seed)
            web = some_web(chance)
            roads, model = Roads(web), RoadsByWords(web)
            for at in range(140):
                call = some_call(chance, roads)
                if chance.random() < 0.02:
                    call = ("rest", chance.choice([None, 0, 1, 5]))
                told, due = do_call(roads, call), do_call(model, call)
                self.assertTrue(told is due or same(told, due), f"{seed}: {call}: {told}, due {due}")
                done[call[0]] = done.get(call[0], 0) + (not isinstance(told, type))
                if at % 10 == 9:
                    self.assertEqual(roads_view(roads), roads_view(model))
        self.assertGreater(min(done.values()), 30, done)

    def test_large(self):
        chance = random.Random(5)
        web = [chance.randrange(at + 1) for at in range(20)]
        roads, model = Roads(web), RoadsByWords(web)
        for at in range(700):
            call = some_call(chance, roads, THIRTY)
            told, due = do_call(roads, call), do_call(model, call)
            self.assertTrue(told is due or same(told, due), f"{call}: {told}, due {due}")
        self.assertEqual(roads_view(roads), roads_view(model))
        rest_in_any_order(random.Random(1), roads)
        rest_in_any_order(random.Random(1), model)
        self.assertEqual(roads_view(roads), roads_view(model))


class Own(unittest.TestCase):
    """2: what is told is the asker's own."""

    def test_lists_told(self):
        roads = some_roads()
        before = roads_view(roads)
        told = [roads_view(roads), roads_view(roads)]
        self.assertTrue(told[0][2] and told[0][3])
        check_own(self, told, [])
        # The lists that are told within others first.
        for one in lists_within(told):
            one.clear()
        self.assertEqual(roads_view(roads), before)
        roads.rest()
        self.assertEqual(roads.rows()[:len(before[3])], before[3])

    def test_two_roads_have_nothing_in_common(self):
        one, other = some_roads(), some_roads()
        fresh, grown = Roads(), Roads()
        one.rest()
        one.grow(0)
        one.go("cat")
        grown.grow(0)
        self.assertEqual(roads_view(other), roads_view(some_roads()))
        self.assertEqual(roads_view(fresh), roads_view(Roads()))


if __name__ == "__main__":
    unittest.main()

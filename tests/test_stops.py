"""Promises 23 to 27, and of 2, 3 and 17 what they say of a stop."""

import random
import unittest

from helper import GREATER, GREATEST, NO_LETTERS, NO_LISTS, NO_NAMES, NO_NUMBERS, NO_WAYS
from helper import Outcomes, StopByWords, check_own, check_refused, check_told, lists_within, same
from helper import some_piece, some_wish, told_or_refused, unwant, want
from newsways.errors import NoHand, NoLetter, NoName, NoRoad, NotWanted, NoWish, OnTheWay, Twice
from newsways.posts import Post
from newsways.stops import Stop

A, B, AB = (("a", 1, 2),), (("b", 1, 2),), (("a", 1, 2), ("b", 1, 2))
WIDE, LOW, HIGH = (("a", 0, 9),), (("a", 0, 5),), (("a", 4, 9),)
ONE, TWO, BEE = (("a", 1),), (("a", 2),), (("b", 1),)


def stop_view(stop):
    """All that a stop tells."""
    told = [stop.hands(), stop.staying(), stop.leaving(), stop.coming(), stop.told()]
    for hand in stop.hands():
        told += [stop.wishes(hand), stop.marks(hand)]
    for neighbour in (0, 2, 5, 7, 9):
        told += [told_or_refused(stop.known, neighbour), told_or_refused(stop.said, neighbour)]
    return told


def a_stop():
    """Stop 3 with neighbours 0, 5 and 7: ann stays, ben leaves, cat is coming."""
    stop = Stop(3, [0, 5, 7])
    for name, wish in (("ann", A), ("ben", LOW)):
        stop.come(name)
        stop.want(name, wish)
    stop.tell(ONE)
    stop.leave("ben")
    stop.expect("cat", [B, A], (3, 5, 9))
    stop.hear(0, ("news", 8, 4, TWO))
    stop.hear(7, ("want", HIGH))
    return stop


class States(Outcomes):
    """23, 24, 27: hands that stay, leave and are coming."""

    def test_a_stop_is_a_post(self):
        self.assertIsInstance(Stop(3, [0]), Post)
        self.assertNotIsInstance(Post(3, [0]), Stop)

    def test_states(self):
        stop = Stop(3, [0, 5])
        for name in ("dan", "cat", "ben", "ann"):
            self.check([], [], stop.come, name)
        check_told(self, ["ann", "ben", "cat", "dan"], stop.staying)
        check_told(self, [], stop.leaving)
        check_told(self, [], stop.coming)
        for name in ("cat", "ann"):
            self.assertEqual(stop.leave(name), [])
        for name in ("z", "a"):
            self.check([(0, ("here", name, (3, 0)))], [], stop.expect, name, [], (3, 0))
        check_told(self, ["ben", "dan"], stop.staying)
        check_told(self, ["ann", "cat"], stop.leaving)
        check_told(self, ["a", "z"], stop.coming)
        check_told(self, ["a", "ann", "ben", "cat", "dan", "z"], stop.hands)

    def test_leave_tells_the_wishes_in_order(self):
        stop = Stop(3, [0])
        stop.come("ann")
        for wish in (B, HIGH, A, LOW, ()):
            stop.want("ann", wish)
        stop.tell(ONE)
        told = stop.leave("ann")
        self.assertTrue(same(told, [(), LOW, A, HIGH, B]))
        told.clear()
        check_told(self, [(), LOW, A, HIGH, B], stop.wishes, "ann")
        check_told(self, [(3, 0)], stop.marks, "ann")
        check_told(self, [()], stop.said, 0)

    def test_expect_puts_out_what_is_said_and_behind_it_the_here(self):
        stop = Stop(3, [0, 5, 12])
        stop.come("ann")
        stop.want("ann", LOW)
        stop.want("ann", A)
        wishes = [WIDE, B, A]
        self.check(want(0, WIDE, B) + unwant(0, LOW) + want(5, WIDE, B) + unwant(5, LOW) + want(12, WIDE, B)
                   + unwant(12, LOW) + [(5, ("here", "ben", (3, 5, 1, 8)))], [],
                   stop.expect, "ben", wishes, (3, 5, 1, 8))
        self.assertEqual(wishes, [WIDE, B, A])
        wishes.clear()
        check_told(self, [WIDE, A, B], stop.wishes, "ben")
        check_told(self, [], stop.marks, "ben")
        check_told(self, [WIDE, B], stop.said, 0)

    def test_expect_with_what_is_said_already(self):
        stop = Stop(3, [0, 5])
        stop.come("ann")
        stop.want("ann", ())
        self.check([(0, ("here", "ben", (3, 0)))], [], stop.expect, "ben", [A, B], (3, 0))
        self.check([(5, ("here", "cat", (3, 5)))], [], stop.expect, "cat", [], (3, 5))

    def test_of_the_way_the_first_and_second_post_alone_are_looked_at(self):
        stop = Stop(3, [0, 5])
        ways = [(3, 0, 5), (3, 5, 0), (3, 0, 99, 7), (3, 5, GREATER), (3, 0) + tuple(range(100, 300))]
        for name, way in zip("abcde", ways):
            self.check([(way[1], ("here", name, way))], [], stop.expect, name, [], way)

    def test_the_wishes_of_all_hands_count_in_what_is_said(self):
        stop = Stop(3, [0, 5])
        stop.come("ann")
        stop.want("ann", LOW)
        stop.leave("ann")
        stop.expect("ben", [HIGH], (3, 0))
        stop.come("cat")
        self.check([], [], stop.want, "cat", A)
        check_told(self, [LOW, HIGH], stop.said, 5)
        self.check(want(0, A) + unwant(0, LOW) + want(5, A) + unwant(5, LOW)
                   + [(0, ("kept", "ann", (3, 0), (), ()))], [], stop.hear, 0, ("here", "ann", (0, 3)))
        self.check([], [], stop.hear, 0, ("kept", "ben", (0, 3), (), ()))
        check_told(self, [A, HIGH], stop.said, 5)
        check_told(self, ["ben", "cat"], stop.staying)


class Kept(Outcomes):
    """25: what is kept for hands that move."""

    def test_kept_for_a_leaving_hand(self):
        stop = Stop(3, [0, 5])
        stop.come("ann")
        stop.want("ann", A)
        self.check([], [("ann", 3, 0, ONE)], stop.tell, ONE)
        stop.leave("ann")
        self.check([], [], stop.tell, TWO)
        self.check([], [], stop.hear, 0, ("news", 8, 7, ONE))
        self.check([], [], stop.tell, BEE)
        # Whatever its number is, also one that it was given, or that is kept already.
        self.check([], [], stop.hear, 5, ("news", 8, 7, ONE))
        self.check([], [], stop.hear, 5, ("news", 3, 0, ONE))
        self.check([], [], stop.hear, 5, ("news", 8, 2, TWO))
        kept = ((3, 1, TWO), (8, 7, ONE), (8, 7, ONE), (3, 0, ONE), (8, 2, TWO))
        self.check(unwant(0, A) + unwant(5, A) + [(0, ("kept", "ann", (3, 0, 9), ((3, 0),), kept))], [],
                   stop.hear, 0, ("here", "ann", (9, 0, 3)))

    def test_kept_for_a_coming_hand(self):
        stop = Stop(3, [0, 5])
        stop.expect("ann", [A], (3, 0))
        self.check([], [], stop.tell, TWO)
        self.check([], [], stop.tell, BEE)
        self.check([], [], stop.hear, 5, ("news", 8, 7, ONE))
        self.check([], [], stop.hear, 5, ("news", 8, 7, ONE))
        self.check([], [], stop.hear, 5, ("news", 8, 6, ONE))
        self.check([], [], stop.hear, 5, ("news", 8, 9, TWO))
        self.check([], [("ann", 3, 0, TWO), ("ann", 8, 7, ONE), ("ann", 8, 9, TWO)],
                   stop.hear, 0, ("kept", "ann", (0, 3), (), ()))
        check_told(self, [(3, 0), (8, 9)], stop.marks, "ann")

    def test_it_is_still_put_out_and_given_to_the_others(self):
        stop = Stop(3, [0, 5])
        stop.hear(0, ("want", A))
        for name in ("dan", "ben", "ann"):
            stop.come(name)
            stop.want(name, A)
        stop.leave("ben")
        stop.expect("cat", [A], (3, 0))
        letter = ("news", 3, 0, ONE)
        self.check([(0, letter)], [("ann", 3, 0, ONE), ("dan", 3, 0, ONE)], stop.tell, ONE)
        self.check([(0, ("news", 9, 0, ONE))], [("ann", 9, 0, ONE), ("dan", 9, 0, ONE)],
                   stop.hear, 5, ("news", 9, 0, ONE))

    def test_kept_once_by_two_wishes(self):
        stop = Stop(3, [0])
        stop.expect("ann", [A, LOW, ()], (3, 0))
        stop.tell(ONE)
        self.check([], [("ann", 3, 0, ONE)], stop.hear, 0, ("kept", "ann", (0, 3), (), ()))


class OnTheirWay(Outcomes):
    """26: here and kept along their way and at its ends."""

    def test_put_on_along_the_way(self):
        stop = Stop(3, [0, 5, 7])
        stop.come("ann")
        stop.want("ann", A)
        stop.leave("ann")
        stop.expect("ben", [A], (3, 0))
        before = stop_view(stop)
        pieces = ((8, 3, ONE), (8, 2, BEE))
        for hand in ("ann", "ben", "cat"):
            for way, source, following in (
                ((0, 3, 5), 0, 5), ((0, 3, 5, 9), 0, 5), ((9, 7, 3, 0), 7, 0), ((1, 2, 5, 3, 7, 0), 5, 7),
                ((8, 0, 3, 7, GREATEST), 0, 7),
            ):
                for letter in (("here", hand, way), ("kept", hand, way, ((8, 1),), pieces)):
                    self.check([(following, letter)], [], stop.hear, source, letter)
        self.assertEqual(stop_view(stop), before)

    def test_here_at_its_last_post(self):
        stop = Stop(3, [0, 5])
        for name, wish in (("ann", LOW), ("ben", A)):
            stop.come(name)
            stop.want(name, wish)
        stop.want("ann", B)
        stop.hear(5, ("news", 8, 7, ONE))
        stop.hear(5, ("news", 2, 1, ONE))
        stop.leave("ann")
        self.check(want(0, A) + unwant(0, LOW, B) + want(5, A) + unwant(5, LOW, B)
                   + [(5, ("kept", "ann", (3, 5, 9, 4), ((2, 1), (8, 7)), ()))], [],
                   stop.hear, 5, ("here", "ann", (4, 9, 5, 3)))
        check_told(self, ["ben"], stop.hands)
        check_told(self, [], stop.leaving)
        check_refused(self, NoHand, stop.wishes, "ann")
        # It may come again, as a new one.
        self.check([], [], stop.come, "ann")
        check_told(self, [], stop.marks, "ann")
        check_told(self, [], stop.wishes, "ann")

    def test_of_the_shortest_way(self):
        stop = Stop(3, [0])
        stop.come("ann")
        stop.leave("ann")
        self.check([(0, ("kept", "ann", (3, 0), (), ()))], [], stop.hear, 0, ("here", "ann", (0, 3)))

    def test_kept_at_its_last_post(self):
        stop = Stop(3, [0, 5])
        stop.expect("ann", [A], (3, 0, 9))
        for number in (2, 5, 6):
            stop.hear(5, ("news", 8, number, ONE))
        stop.tell(TWO)
        stop.hear(5, ("news", 1, 0, ONE))
        marks = ((1, 0), (4, 4), (8, 2))
        pieces = ((8, 2, ONE), (8, 3, BEE), (4, 4, ONE), (7, 9, ONE), (7, 8, ONE), (8, 5, ONE))
        given = [("ann", 8, 3, BEE), ("ann", 7, 9, ONE), ("ann", 8, 5, ONE), ("ann", 8, 6, ONE), ("ann", 3, 0, TWO)]
        self.check([], given, stop.hear, 0, ("kept", "ann", (9, 0, 3), marks, pieces))
        check_told(self, [(1, 0), (3, 0), (4, 4), (7, 9), (8, 6)], stop.marks, "ann")
        check_told(self, ["ann"], stop.staying)
        check_told(self, [], stop.coming)
        check_told(self, [A], stop.wishes, "ann")
        check_told(self, [A], stop.said, 5)
        # From now on it stays, and is given what is above its marks.
        self.check([], [], stop.hear, 5, ("news", 8, 6, ONE))
        self.check([], [("ann", 8, 7, ONE)], stop.hear, 5, ("news", 8, 7, ONE))
        self.check([], [("ann", 3, 1, ONE)], stop.tell, ONE)

    def test_pieces_that_it_does_not_want_are_given_too(self):
        stop = Stop(3, [0])
        stop.expect("ann", [], (3, 0))
        self.check([], [("ann", 8, 1, ONE), ("ann", 8, 2, ())],
                   stop.hear, 0, ("kept", "ann", (0, 3), (), ((8, 1, ONE), (8, 1, BEE), (8, 2, ()))))

    def test_nothing_kept_is_left_behind(self):
        stop = Stop(3, [0])
        stop.expect("ann", [A], (3, 0))
        stop.tell(ONE)
        self.check([], [("ann", 3, 0, ONE)], stop.hear, 0, ("kept", "ann", (0, 3), (), ()))
        stop.leave("ann")
        stop.tell(TWO)
        self.check(unwant(0, A) + [(0, ("kept", "ann", (3, 0), ((3, 0),), ((3, 1, TWO),)))], [],
                   stop.hear, 0, ("here", "ann", (0, 3)))
        stop.expect("ann", [A], (3, 0))
        self.check([], [], stop.hear, 0, ("kept", "ann", (0, 3), (), ()))
        check_told(self, [], stop.marks, "ann")

    def test_go_leave_want_and_unwant_once_it_stays(self):
        stop = Stop(3, [0])
        stop.expect("ann", [A], (3, 0))
        stop.hear(0, ("kept", "ann", (0, 3), (), ()))
        self.check(want(0, B), [], stop.want, "ann", B)
        self.check(unwant(0, A), [], stop.unwant, "ann", A)
        self.assertEqual(stop.leave("ann"), [B])
        stop.hear(0, ("here", "ann", (0, 3)))
        stop.expect("ann", [A], (3, 0))
        stop.hear(0, ("kept", "ann", (0, 3), (), ()))
        self.check(unwant(0, A), [], stop.go, "ann")


class Refused(unittest.TestCase):
    """27, 3: each refusal, of anything, in its order, and that it changes nothing."""

    def setUp(self):
        self.stop = a_stop()
        self.before = stop_view(self.stop)

    def check(self, error, name, *arguments):
        check_refused(self, error, getattr(self.stop, name), *arguments)
        self.assertTrue(same(stop_view(self.stop), self.before))

    def tearDown(self):
        """What was refused changed nothing, also not what is kept: all goes on as where nothing was refused."""
        other = a_stop()
        for name, *arguments in (
            ("tell", ONE), ("hear", 5, ("kept", "cat", (9, 5, 3), (), ((1, 1, ONE),))), ("grow", 9), ("go", "ann"),
            ("hear", 0, ("here", "ben", (0, 3))), ("tell", BEE), ("leave", "cat"),
        ):
            self.assertEqual(getattr(self.stop, name)(*arguments), getattr(other, name)(*arguments))
        self.assertEqual(stop_view(self.stop), stop_view(other))

    def test_on_the_way(self):
        for hand in ("ben", "cat"):
            self.check(OnTheWay, "go", hand)
            self.check(OnTheWay, "leave", hand)
            for wish in (A, B, LOW, WIDE, (), None, [], ("a", 1)):
                self.check(OnTheWay, "want", hand, wish)
                self.check(OnTheWay, "unwant", hand, wish)

    def test_no_hand(self):
        for thing in NO_NAMES + ["dan", "an"]:
            for name in ("go", "leave", "wishes", "marks"):
                self.check(NoHand, name, thing)
            self.check(NoHand, "want", thing, None)
            self.check(NoHand, "unwant", thing, None)

    def test_twice(self):
        for hand in ("ann", "ben", "cat"):
            self.check(Twice, "come", hand)
            for wishes, way in (([], (3, 0)), ([A], (3, 5, 9)), (None, None), ([A, A], (3, 1))):
                self.check(Twice, "expect", hand, wishes, way)

    def test_no_name(self):
        for thing in NO_NAMES:
            self.check(NoName, "come", thing)
            for wishes, way in (([], (3, 0)), (None, None)):
                self.check(NoName, "expect", thing, wishes, way)

    def test_no_wish(self):
        for thing in NO_LISTS:
            self.check(NoWish, "expect", "dan", thing, (3, 0))
        for way in (None, (), (0, 3), (3, 1), [3, 0]):
            self.check(NoWish, "expect", "dan", [A, A], way)
            self.check(NoWish, "expect", "dan", None, way)

    def test_no_road(self):
        ways = [(0, 3), (3, 1), (3, 9, 0), (3, 2), (5, 0), (4, 3), (3,), (3, 0, 3), (3, 0, 0), (3, True), [3, 0]]
        ways += [(3, 0, -1), (3, 0, None), (3, 0, "1"), (3, 0, 5, 5), (3, (0,)), ((3, 0),), (3, GREATEST), "30"]
        for way in ways + NO_WAYS:
            self.check(NoRoad, "expect", "dan", [A], way)
            self.check(NoRoad, "expect", "dan", [], way)
        for thing in NO_NUMBERS + [3, 1, 9]:
            for letter in (("want", A), ("here", "ben", (0, 3)), ("kept", "cat", (0, 3), (), ()), None):
                self.check(NoRoad, "hear", thing, letter)

    def test_no_letter(self):
        for thing in NO_LETTERS:
            self.check(NoLetter, "hear", 0, thing)
        self.check(NoLetter, "hear", 7, ("want", HIGH))
        self.check(NoLetter, "hear", 0, ("unwant", HIGH))

    def test_ways_on_which_this_post_is_not_or_is_the_first(self):
        for hand in ("ann", "ben", "cat", "dan"):
            for source in (0, 5):
                for way in ((0, 5), (5, 0), (0, 5, 7), (9, 0), (1, 0, 5), (3, 0), (3, 5), (3, 0, 5), (3, 5, 0), (3, 9)):
                    self.check(NoLetter, "hear", source, ("here", hand, way))
                    self.check(NoLetter, "hear", source, ("kept", hand, way, (), ()))

    def test_ways_that_do_not_lead_over_the_neighbour_from_which_it_is_heard(self):
        for hand in ("ben", "cat", "dan"):
            for way in ((5, 3), (9, 3), (5, 3, 7), (0, 5, 3), (0, 9, 3), (5, 3, 0), (9, 3, 5), (7, 3, 9, 0)):
                self.check(NoLetter, "hear", 0, ("here", hand, way))
                self.check(NoLetter, "hear", 0, ("kept", hand, way, (), ()))

    def test_ways_that_go_on_to_no_neighbour(self):
        for hand in ("ben", "cat", "dan"):
            for way in ((0, 3, 9), (0, 3, 1, 5), (7, 0, 3, 2), (0, 3, 9, 5, 7)):
                self.check(NoLetter, "hear", 0, ("here", hand, way))
                self.check(NoLetter, "hear", 0, ("kept", hand, way, (), ()))

    def test_at_the_last_post_of_the_way(self):
        for source in (0, 5, 7):
            for way in ((source, 3), (9, source, 3), (9, 1, source, 3)):
                for hand in ("ann", "cat", "dan"):
                    self.check(NoLetter, "hear", source, ("here", hand, way))
                for hand in ("ann", "ben", "dan"):
                    self.check(NoLetter, "hear", source, ("kept", hand, way, (), ()))
                    self.check(NoLetter, "hear", source, ("kept", hand, way, ((1, 2),), ((1, 3, ONE),)))


class ByWords(unittest.TestCase):
    """Random deeds, right and wrong ones, against a stop by the document's words."""

    def some_call(self, chance, stop):
        hand, near = chance.choice(["ann", "ben", "cat", "z"]), chance.choice([0, 0, 5, 5, 9])
        others = [n for n in (0, 2, 5, 9) if n != near]
        way = chance.choice([(near, 3)] * 3 + [(8, near, 3), (near, 3, chance.choice(others)), (3, near), (near, 3, 8)])
        back = chance.choice([(3, near), (3, near, 8), (3, near, 8), (near, 3)])
        held = stop.wishes(hand) if hand in stop.hands() else []
        held = chance.choice(held + [some_wish(chance)])
        pieces = tuple((chance.choice([3, 8]), chance.randrange(9), some_piece(chance)) for _ in range(chance.randrange(4)))
        marks = tuple((teller, chance.randrange(5)) for teller in (3, 8) if chance.random() < 0.4)
        wishes = [some_wish(chance) for _ in range(chance.randrange(3))]
        news = ("news", chance.choice([0, 3, 8]), chance.randrange(9), some_piece(chance))
        return chance.choice([
            ("come", hand), ("want", hand, some_wish(chance)), ("want", hand, some_wish(chance)), ("leave", hand),
            ("unwant", hand, held), ("unwant", hand, held), ("tell", some_piece(chance)), ("leave", hand),
            ("expect", hand, wishes, back), ("hear", near, ("here", hand, way)), ("hear", near, news),
            ("hear", near, ("kept", hand, way, marks, pieces)), ("hear", near, ("kept", hand, way, marks, pieces)),
            ("hear", near, ("want", some_wish(chance))), ("hear", near, news), ("go", hand),
        ])

    def test_many(self):
        done = {}
        for seed in range(120):
            chance = random.Random(seed)
            near = chance.choice([[0], [0, 5], [0, 5, 9], [2, 5, 9]])
            stop, model = Stop(3, near), StopByWords(3, near)
            for _ in range(100):
                name, *arguments = self.some_call(chance, model)
                told = told_or_refused(getattr(stop, name), *arguments)
                due = told_or_refused(getattr(model, name), *arguments)
                self.assertTrue(told is due or same(told, due), f"{seed}: {name}{arguments}: {told}, due {due}")
                self.assertEqual(stop_view(stop), stop_view(model))
                word = arguments[1][0] if name == "hear" else name
                done[word] = done.get(word, 0) + (not isinstance(told, type))
        self.assertGreater(min(done.values()), 40, done)


class Own(unittest.TestCase):
    """2: what is told is the asker's own."""

    def test_lists_told(self):
        stop = a_stop()
        before = stop_view(stop)
        told = [stop.hands(), stop.staying(), stop.staying(), stop.leaving(), stop.leaving(), stop.coming()]
        told += [stop.coming(), stop.wishes("cat"), stop.marks("ben"), stop.marks("cat")]
        check_own(self, told, [])
        for one in lists_within(told):
            one.clear()
        self.assertEqual(stop_view(stop), before)

    def test_not_wanted_at_a_stop(self):
        check_refused(self, NotWanted, a_stop().unwant, "ann", LOW)


if __name__ == "__main__":
    unittest.main()

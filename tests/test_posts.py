"""Promises 18 to 22, and of 2, 3, 9 and 17 what they say of a post."""

import random
import unittest

from helper import GREAT, GREATER, GREATEST, NO_LETTERS, NO_NAMES, NO_NUMBERS, NO_PIECES, NO_WISHES
from helper import Outcomes, StopByWords, check_own, check_refused, check_told, lists_within, same
from helper import some_piece, some_wish, told_or_refused, unwant, want
from newsways.errors import NoHand, NoLetter, NoName, NoPiece, NoRoad, NotWanted, NoWish, Twice
from newsways.posts import Post
from newsways.stops import Stop

A, B, AB = (("a", 1, 2),), (("b", 1, 2),), (("a", 1, 2), ("b", 1, 2))
WIDE, LOW, HIGH = (("a", 0, 9),), (("a", 0, 5),), (("a", 4, 9),)
ONE = (("a", 1),)
# Not wishes, but alike to A for ==.
ALIKE_A = (("a", True, 2),)


def news(neighbour, teller, number, piece):
    return [(neighbour, ("news", teller, number, piece))]


def post_view(post):
    """All that a post tells of the hands and neighbours that it has."""
    told = [post.hands(), post.told()]
    for hand in post.hands():
        told += [post.wishes(hand), post.marks(hand)]
    for neighbour in (0, 2, 5, 7, 9):
        told += [told_or_refused(post.known, neighbour), told_or_refused(post.said, neighbour)]
    return told


def a_post(kind=Post):
    """Post 3 with neighbours 0, 5 and 7, two hands, something known of each neighbour but 7."""
    post = kind(3, [0, 5, 7])
    post.come("ben")
    post.come("ann")
    post.want("ann", LOW)
    post.want("ann", B)
    post.want("ben", A)
    post.hear(0, ("want", HIGH))
    post.hear(5, ("want", A))
    post.tell((("a", 1),))
    post.hear(5, ("news", 8, 4, (("b", 2),)))
    return post


class Hands(Outcomes):
    """18, 22: hands come, go and come again, want and stop wanting."""

    def test_come_and_go(self):
        post = Post(3, [0, 5])
        check_told(self, [], post.hands)
        for name in ("ben", "ann", "z", "abcdefgh"):
            self.check([], [], post.come, name)
        check_told(self, ["abcdefgh", "ann", "ben", "z"], post.hands)
        check_told(self, [], post.wishes, "ann")
        check_told(self, [], post.marks, "ann")
        self.check([], [], post.go, "ben")
        check_told(self, ["abcdefgh", "ann", "z"], post.hands)

    def test_come_again_without_wishes_and_without_marks(self):
        post = Post(3, [0, 5])
        post.come("ann")
        post.want("ann", A)
        self.check([], [("ann", 3, 0, ONE)], post.tell, ONE)
        check_told(self, [(3, 0)], post.marks, "ann")
        self.check(unwant(0, A) + unwant(5, A), [], post.go, "ann")
        check_refused(self, NoHand, post.wishes, "ann")
        self.check([], [], post.come, "ann")
        check_told(self, [], post.wishes, "ann")
        check_told(self, [], post.marks, "ann")
        check_told(self, [], post.said, 0)
        self.check([], [], post.tell, ONE)
        self.check(want(0, A) + want(5, A), [], post.want, "ann", A)
        # Its marks are gone: a number that it was given in an earlier stay is given again.
        self.check([], [("ann", 3, 0, ONE)], post.hear, 0, ("news", 3, 0, ONE))

    def test_a_hand_goes_with_all_its_wishes(self):
        post = Post(3, [0])
        post.come("ann")
        post.come("ben")
        for wish in (HIGH, B, LOW, AB):
            post.want("ann", wish)
        post.want("ben", A)
        self.check(want(0, A) + unwant(0, LOW, HIGH, B), [], post.go, "ann")
        check_told(self, [A], post.wishes, "ben")

    def test_wishes_in_order(self):
        post = Post(3, [])
        post.come("ann")
        rising = [(), (("a", None, 3),), A, (("a", 1, None),), (("a", 1, None), ("b", 0, 0)), (("b", 0, 0),)]
        for wish in reversed(rising):
            self.check([], [], post.want, "ann", wish)
        check_told(self, rising, post.wishes, "ann")
        self.check([], [], post.unwant, "ann", A)
        check_told(self, rising[:2] + rising[3:], post.wishes, "ann")

    def test_marks_rising(self):
        post = Post(3, [0])
        post.come("ann")
        post.want("ann", ())
        for teller, number in ((20, 5), (3, 1), (7, 0), (20, 6), (GREATER, GREATER), (0, 2)):
            self.check([], [("ann", teller, number, ONE)], post.hear, 0, ("news", teller, number, ONE))
        check_told(self, [(0, 2), (3, 1), (7, 0), (20, 6), (GREATER, GREATER)], post.marks, "ann")

    def test_told(self):
        post = Post(3, [0])
        check_told(self, 0, post.told)
        for many in range(1, 4):
            post.tell(ONE)
            post.hear(0, ("news", 3, 77, ONE))
            check_told(self, many, post.told)

    def test_thirty_hands_of_ten_wishes(self):
        post = Post(0, list(range(1, 24)))
        names = [first + second for first in "abcde" for second in "uvwxyz"]
        for name in names:
            post.come(name)
            for low in range(10):
                wish = (("a", low, 100 + low), ("b", names.index(name), 100 + names.index(name)))
                self.check([one for n in range(1, 24) for one in want(n, wish)], [], post.want, name, wish)
        self.assertEqual(post.hands(), sorted(names))
        self.assertEqual(len(post.said(23)), 300)
        piece = (("a", 5), ("b", 3))
        self.check([], [(name, 0, 0, piece) for name in sorted(names)[:4]], post.tell, piece)
        self.check([one for n in range(1, 24) if n != 9 for one in want(n, ()) + unwant(n, *post.said(n))], [],
                   post.hear, 9, ("want", ()))


class Said(Outcomes):
    """19: what a post knows and says."""

    def test_wants_in_order_then_unwants_in_order_for_each_neighbour_rising(self):
        post = Post(3, [0, 5, 12])
        post.come("ann")
        for wish in (HIGH, B, LOW):
            post.want("ann", wish)
        check_told(self, [LOW, HIGH, B], post.said, 12)
        self.check(want(0, WIDE) + unwant(0, LOW, HIGH) + want(5, WIDE) + unwant(5, LOW, HIGH) + want(12, WIDE)
                   + unwant(12, LOW, HIGH), [], post.want, "ann", WIDE)
        self.check(want(0, LOW, HIGH) + unwant(0, WIDE) + want(5, LOW, HIGH) + unwant(5, WIDE)
                   + want(12, LOW, HIGH) + unwant(12, WIDE), [], post.unwant, "ann", WIDE)

    def test_what_is_covered_is_not_said(self):
        post = Post(3, [0])
        post.come("ann")
        self.check(want(0, LOW), [], post.want, "ann", LOW)
        self.check([], [], post.want, "ann", A)
        self.check([], [], post.want, "ann", AB)
        self.check(want(0, B), [], post.want, "ann", B)
        check_told(self, [LOW, B], post.said, 0)
        self.check([], [], post.unwant, "ann", A)
        self.check(unwant(0, LOW), [], post.unwant, "ann", LOW)
        self.check(want(0, AB) + unwant(0, B), [], post.unwant, "ann", B)

    def test_alike_wishes_of_two_hands(self):
        post = Post(3, [0])
        post.come("ann")
        post.come("ben")
        self.check(want(0, A), [], post.want, "ann", A)
        self.check([], [], post.want, "ben", A)
        self.check([], [], post.go, "ann")
        check_told(self, [A], post.said, 0)
        self.check(unwant(0, A), [], post.unwant, "ben", A)
        check_told(self, [], post.said, 0)

    def test_alike_wishes_of_a_hand_and_a_neighbour(self):
        post = Post(3, [0, 5, 7])
        post.come("ann")
        self.check(want(0, A) + want(5, A) + want(7, A), [], post.want, "ann", A)
        self.check([], [], post.hear, 5, ("want", A))
        self.check(unwant(5, A), [], post.unwant, "ann", A)
        check_told(self, [A], post.said, 0)
        check_told(self, [], post.said, 5)
        check_told(self, [A], post.said, 7)
        self.check(want(5, A), [], post.want, "ann", A)
        self.check([], [], post.hear, 5, ("unwant", A))
        self.check(unwant(0, A) + unwant(5, A) + unwant(7, A), [], post.go, "ann")

    def test_never_what_is_known_of_a_neighbour_alone_to_it(self):
        post = Post(3, [0, 5, 7])
        self.check(want(5, LOW) + want(7, LOW), [], post.hear, 0, ("want", LOW))
        self.check(want(5, HIGH) + want(7, HIGH), [], post.hear, 0, ("want", HIGH))
        self.check(want(0, WIDE) + want(7, WIDE) + unwant(7, LOW, HIGH), [], post.hear, 5, ("want", WIDE))
        check_told(self, [WIDE], post.said, 0)
        check_told(self, [LOW, HIGH], post.said, 5)
        check_told(self, [WIDE], post.said, 7)
        self.check([], [], post.hear, 7, ("want", A))
        self.check(want(5, A) + unwant(5, LOW), [], post.hear, 0, ("unwant", LOW))
        self.check(want(0, A) + unwant(0, WIDE) + want(7, HIGH) + unwant(7, WIDE), [],
                   post.hear, 5, ("unwant", WIDE))

    def test_a_neighbours_wish_covers_a_hands(self):
        post = Post(3, [0, 5])
        post.come("ann")
        self.check(want(0, A) + want(5, A), [], post.want, "ann", A)
        self.check(want(5, WIDE) + unwant(5, A), [], post.hear, 0, ("want", WIDE))
        check_told(self, [A], post.said, 0)
        check_told(self, [WIDE], post.said, 5)
        self.check(want(5, A) + unwant(5, WIDE), [], post.hear, 0, ("unwant", WIDE))

    def test_known_is_what_was_heard_with_want_and_not_since_with_unwant(self):
        post = Post(3, [0, 5])
        check_told(self, [], post.known, 0)
        for wish in (HIGH, A, WIDE, B):
            post.hear(0, ("want", wish))
        # Known is all that was heard, not the greatest of it.
        check_told(self, [WIDE, A, HIGH, B], post.known, 0)
        check_told(self, [], post.known, 5)
        self.check(want(5, A, HIGH) + unwant(5, WIDE), [], post.hear, 0, ("unwant", WIDE))
        self.check(unwant(5, B), [], post.hear, 0, ("unwant", B))
        check_told(self, [A, HIGH], post.known, 0)
        self.check(want(5, B), [], post.hear, 0, ("want", B))
        check_told(self, [A, HIGH, B], post.known, 0)

    def test_grow(self):
        post = Post(3, [5])
        self.check([], [], post.grow, 9)
        post.come("ann")
        post.want("ann", HIGH)
        post.want("ann", A)
        post.hear(5, ("want", LOW))
        post.hear(9, ("want", B))
        self.check(want(0, LOW, HIGH, B), [], post.grow, 0)
        check_told(self, [], post.known, 0)
        check_told(self, [LOW, HIGH, B], post.said, 0)
        self.check(want(0, ()) + unwant(0, LOW, HIGH, B) + want(9, ()) + unwant(9, LOW, HIGH), [],
                   post.hear, 5, ("want", ()))
        self.check(want(5, WIDE) + unwant(5, A, HIGH), [], post.hear, 0, ("want", WIDE))
        self.check([], [], post.unwant, "ann", A)
        self.check(want(7, ()), [], post.grow, 7)
        self.check(want(GREAT, ()), [], post.grow, GREAT)

    def test_any_numbers_of_posts(self):
        numbers = [0, 7, 99, GREAT, GREATER, GREATEST]
        post = Post(5, numbers)
        post.come("ann")
        self.check([one for n in numbers for one in want(n, A)], [], post.want, "ann", A)
        self.check([one for n in numbers[:-1] for one in want(n, B)], [], post.hear, GREATEST, ("want", B))
        check_told(self, [B], post.known, GREATEST)
        check_told(self, [A], post.said, GREATEST)
        alone = Post(GREATEST, [])
        alone.come("ann")
        alone.want("ann", ())
        self.check([], [("ann", GREATEST, 0, ONE)], alone.tell, ONE)

    def test_the_neighbours_handed_in_are_a_copy(self):
        near = [0, 5]
        post = Post(3, near)
        near.append(7)
        check_refused(self, NoRoad, post.known, 7)
        near.clear()
        check_told(self, [], post.known, 5)
        post.grow(9)
        self.assertEqual(near, [])


class Pieces(Outcomes):
    """20: pieces told and heard."""

    def test_told_here(self):
        post = Post(3, [0, 5])
        for name in ("cat", "ann", "ben"):
            post.come(name)
        post.want("cat", A)
        post.want("ann", LOW)
        post.want("ben", B)
        self.check([], [("ann", 3, 0, ONE), ("cat", 3, 0, ONE)], post.tell, ONE)
        self.check([], [], post.tell, (("c", 1),))
        self.check([], [("ben", 3, 2, (("a", 7), ("b", 1)))], post.tell, (("a", 7), ("b", 1)))
        check_told(self, [(3, 0)], post.marks, "ann")
        check_told(self, [(3, 2)], post.marks, "ben")

    def test_by_two_wishes_once(self):
        post = Post(3, [0, 5])
        post.come("ann")
        for wish in (A, LOW, ()):
            post.want("ann", wish)
            post.hear(5, ("want", wish))
        self.check(news(5, 3, 0, ONE), [("ann", 3, 0, ONE)], post.tell, ONE)

    def test_put_out_to_the_neighbours_that_want_it(self):
        post = Post(3, [0, 5, 7])
        post.hear(7, ("want", A))
        post.hear(0, ("want", LOW))
        post.hear(5, ("want", B))
        self.check(news(0, 3, 0, ONE) + news(7, 3, 0, ONE), [], post.tell, ONE)
        self.check(news(0, 3, 1, (("a", 4),)), [], post.tell, (("a", 4),))
        self.check([], [], post.tell, ())
        post.hear(0, ("unwant", LOW))
        self.check(news(7, 3, 3, ONE), [], post.tell, ONE)

    def test_never_back(self):
        post = Post(3, [0, 5, 7])
        for neighbour in (0, 5, 7):
            post.hear(neighbour, ("want", A))
        for neighbour, others in ((0, (5, 7)), (5, (0, 7)), (7, (0, 5))):
            letter = ("news", 9, neighbour, ONE)
            self.check([(n, letter) for n in others], [], post.hear, neighbour, letter)

    def test_only_above_the_mark_of_that_teller(self):
        post = Post(3, [0, 5])
        post.come("ann")
        post.want("ann", A)
        post.hear(5, ("want", A))
        for teller, number, given in (
            (8, 4, True), (8, 4, False), (8, 3, False), (8, 5, True), (9, 0, True), (9, 0, False), (8, 0, False),
            (8, 100, True), (9, 1, True), (8, 99, False), (0, 0, True), (8, 101, True),
        ):
            due = [("ann", teller, number, ONE)] if given else []
            # Whatever its number is, it is put out.
            self.check(news(5, teller, number, ONE), due, post.hear, 0, ("news", teller, number, ONE))
        check_told(self, [(0, 0), (8, 101), (9, 1)], post.marks, "ann")

    def test_the_marks_are_each_hands_own(self):
        post = Post(3, [0])
        post.come("ann")
        post.want("ann", A)
        post.hear(0, ("news", 8, 4, ONE))
        post.come("ben")
        post.want("ben", LOW)
        self.check([], [("ben", 8, 2, ONE)], post.hear, 0, ("news", 8, 2, ONE))
        self.check([], [("ann", 8, 5, ONE), ("ben", 8, 5, ONE)], post.hear, 0, ("news", 8, 5, ONE))
        post.unwant("ben", LOW)
        self.check([], [("ann", 8, 6, ONE)], post.hear, 0, ("news", 8, 6, ONE))
        check_told(self, [(8, 5)], post.marks, "ben")

    def test_this_post_as_a_teller(self):
        post = Post(3, [0, 5])
        post.come("ann")
        post.want("ann", A)
        self.check([], [("ann", 3, 1, ONE)], post.hear, 0, ("news", 3, 1, ONE))
        self.check([], [], post.tell, ONE)
        self.check([], [], post.tell, ONE)
        self.check([], [("ann", 3, 2, ONE)], post.tell, ONE)
        self.check([], [], post.hear, 5, ("news", 3, 2, ONE))
        check_told(self, 3, post.told)
        check_told(self, [(3, 2)], post.marks, "ann")

    def test_any_fields_and_numbers(self):
        post = Post(3, [0, 5])
        post.come("ann")
        post.want("ann", (("a", -GREATER, None),))
        post.hear(5, ("want", (("h", GREATER, GREATER),)))
        piece = tuple((field, GREATER) for field in "abcdefgh")
        self.check(news(5, GREATER, GREATER, piece), [("ann", GREATER, GREATER, piece)],
                   post.hear, 0, ("news", GREATER, GREATER, piece))


class Refused(unittest.TestCase):
    """21, 3: each refusal, of anything, and that it changes nothing."""

    kind = Post

    def setUp(self):
        self.post = a_post(self.kind)
        self.before = post_view(self.post)

    def check(self, error, name, *arguments):
        check_refused(self, error, getattr(self.post, name), *arguments)
        self.assertTrue(same(post_view(self.post), self.before))

    def tearDown(self):
        """What was refused changed nothing: all goes on as at a post at which nothing was refused."""
        other = a_post(self.kind)
        for post in (self.post, other):
            post.come("cat")
            post.want("cat", ())
            post.grow(9)
        for ask in ("tell", "go", "hear"):
            arguments = {"tell": [ONE], "go": ["ann"], "hear": [0, ("unwant", HIGH)]}[ask]
            self.assertEqual(getattr(self.post, ask)(*arguments), getattr(other, ask)(*arguments))
        self.assertEqual(post_view(self.post), post_view(other))

    def test_no_name_and_twice(self):
        for thing in NO_NAMES:
            self.check(NoName, "come", thing)
        self.check(Twice, "come", "ann")
        self.check(Twice, "come", "ben")

    def test_no_hand(self):
        for thing in NO_NAMES + ["cat", "an", "annn", "a"]:
            self.check(NoHand, "go", thing)
            self.check(NoHand, "wishes", thing)
            self.check(NoHand, "marks", thing)
            for wish in (A, (), None, [], ("a", 1)):
                self.check(NoHand, "want", thing, wish)
                self.check(NoHand, "unwant", thing, wish)

    def test_no_wish_and_twice(self):
        for thing in NO_WISHES:
            self.check(NoWish, "want", "ann", thing)
        self.check(NoWish, "want", "ben", ALIKE_A)
        self.check(Twice, "want", "ann", LOW)
        self.check(Twice, "want", "ann", B)
        self.check(Twice, "want", "ben", A)

    def test_not_wanted(self):
        for thing in NO_WISHES + [A, HIGH, (), WIDE]:
            self.check(NotWanted, "unwant", "ann", thing)
        self.check(NotWanted, "unwant", "ben", LOW)
        self.check(NotWanted, "unwant", "ben", ALIKE_A)

    def test_no_piece(self):
        for thing in NO_PIECES:
            self.check(NoPiece, "tell", thing)

    def test_no_road(self):
        for thing in NO_NUMBERS + [3, 1, 2, 4, 8, 9, GREATEST]:
            self.check(NoRoad, "known", thing)
            self.check(NoRoad, "said", thing)
            for letter in (("want", WIDE), ("unwant", HIGH), ("news", 0, 0, ONE), ("here", "ann", (0, 3)), None, []):
                self.check(NoRoad, "hear", thing, letter)
        for thing in NO_NUMBERS + [3, 0, 5, 7]:
            self.check(NoRoad, "grow", thing)

    def test_no_letter(self):
        for thing in NO_LETTERS:
            for neighbour in (0, 5, 7):
                self.check(NoLetter, "hear", neighbour, thing)

    def test_a_want_of_what_is_known_and_an_unwant_of_what_is_not(self):
        for neighbour, known in ((0, HIGH), (5, A), (7, None)):
            for wish in (A, HIGH, LOW, WIDE, (), B):
                word = "want" if wish == known else "unwant"
                self.check(NoLetter, "hear", neighbour, (word, wish))
        self.check(NoLetter, "hear", 5, ("unwant", ALIKE_A))

    def test_here_and_kept(self):
        for hand in ("ann", "ben", "cat"):
            for way in ((0, 3), (3, 0), (0, 3, 5), (5, 3), (0, 5), (3, 5), (0, 5, 3), (1, 0, 3), (1, 0, 3, 5, 9)):
                for neighbour in (0, 5):
                    if self.kind is Post or way not in ((0, 3, 5), (1, 0, 3, 5, 9)) or neighbour == 5:
                        self.check(NoLetter, "hear", neighbour, ("here", hand, way))
                        self.check(NoLetter, "hear", neighbour, ("kept", hand, way, (), ()))


class RefusedByStops(Refused):
    """All else is as at a Post."""

    kind = Stop


class ByWords(unittest.TestCase):
    """Random deeds, right and wrong ones, against a post by the document's words."""

    def some_call(self, chance, post):
        hand, near = chance.choice(["ann", "ben", "cat", "z"]), chance.choice([0, 2, 5, 9])
        known = post.known(near) if near in post.near else []
        known = chance.choice(known + [some_wish(chance)])
        held = post.wishes(hand) if hand in post.hands() else []
        held = chance.choice(held + [some_wish(chance)])
        return chance.choice([
            ("come", hand), ("come", hand), ("want", hand, some_wish(chance)), ("want", hand, some_wish(chance)),
            ("want", hand, held), ("unwant", hand, held), ("unwant", hand, held), ("tell", some_piece(chance)),
            ("hear", near, ("want", some_wish(chance))), ("hear", near, ("want", some_wish(chance))),
            ("hear", near, ("unwant", known)), ("hear", near, ("unwant", known)), ("hear", near, ("want", known)),
            ("hear", near, ("news", chance.choice([0, 3, 8]), chance.randrange(6), some_piece(chance))),
            ("hear", near, ("news", chance.choice([0, 3, 8]), chance.randrange(6), some_piece(chance))),
        ] + [("go", hand)] * (chance.random() < 0.4) + [("grow", chance.choice([2, 3, 9]))] * (chance.random() < 0.3))

    def test_many(self):
        for seed in range(40):
            chance = random.Random(seed)
            near = chance.choice([[], [0], [0, 5], [0, 5, 9], [2, 5, 9]])
            post, model = chance.choice([Post, Stop])(3, near), StopByWords(3, near, moves=False)
            for _ in range(80):
                name, *arguments = self.some_call(chance, model)
                told = told_or_refused(getattr(post, name), *arguments)
                due = told_or_refused(getattr(model, name), *arguments)
                self.assertTrue(told is due or same(told, due), f"{seed}: {name}{arguments}: {told}, due {due}")
                self.assertEqual(post_view(post), post_view(model))


class Own(unittest.TestCase):
    """2: what is told is the asker's own."""

    def test_lists_told(self):
        post = a_post()
        before = post_view(post)
        told = [post.hands(), post.hands(), post.wishes("ann"), post.wishes("ann"), post.marks("ann")]
        told += [post.marks("ann"), post.known(0), post.known(0), post.said(0), post.said(5), post.said(5)]
        check_own(self, told, [])
        for one in lists_within(told):
            one.clear()
        self.assertEqual(post_view(post), before)

    def test_two_posts_have_nothing_in_common(self):
        one, other = a_post(), a_post()
        one.come("cat")
        one.want("cat", ())
        one.hear(0, ("want", B))
        one.tell(ONE)
        self.assertEqual(post_view(other), post_view(a_post()))


if __name__ == "__main__":
    unittest.main()

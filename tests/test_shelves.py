"""Promises 13 and 14, and of 2, 3 and 8 what they say of a shelf."""

import random
import unittest

from helper import GREAT, GREATER, GREATEST, NO_LISTS, NO_PIECES, NO_WISHES, Other
from helper import check_own, check_refused, check_told, lists_within, nested, odd_things, wanted_by_words
from newsways.errors import NoName, NoPiece, NotWanted, NoWish, Twice
from newsways.shelves import Shelf
from newsways.wishes import covers, in_order

A, B, AB = (("a", 1, 2),), (("b", 1, 2),), (("a", 1, 2), ("b", 1, 2))
WIDE, LOW, HIGH = (("a", 0, 9),), (("a", 0, 5),), (("a", 4, 9),)
HOLDERS = ["ann", "ben", "7", "z9", "ann1"]
NO_NAMES = [thing for thing in odd_things() if thing != "a"] + [
    "", "A", "Ann", "a b", " a", "a ", "a-b", "a_b", "a.b", "`", "{", "/", ":", "@", "~", "*", "a\n", "\t", "-1", "+1",
    "x" * 16, "1" * 16, "x" * 2000, 0, 1, 7, GREATEST, b"ann", ("ann",), ["ann"], {"ann": 1}, {"ann"}, Other(),
    nested(20),
]


class Model:
    """A shelf by the document's words, found anew each time."""

    def __init__(self):
        self.held = {}

    def pairs(self, beside=None):
        return [wish for holder, wishes in self.held.items() if holder != beside for wish in wishes]

    def greatest(self, beside=None):
        on = self.pairs(beside)
        return in_order(list({wish for wish in on if not any(o != wish and covers(o, wish) for o in on)}))

    def change(self, holder, wishes, put):
        before = self.greatest()
        held = self.held.get(holder, [])
        self.held[holder] = held + wishes if put else [wish for wish in held if wish not in wishes]
        after = self.greatest()
        return ([wish for wish in after if wish not in before], [wish for wish in before if wish not in after])


def some_wish(chance):
    spans = [(None, None), (None, 0), (0, None), (0, 0), (0, 1), (1, 1), (-1, 1)]
    return tuple((field,) + chance.choice(spans) for field in "ab" if chance.random() < 0.7)


def view(shelf):
    """All that a shelf tells of these holders, for comparing."""
    told = [len(shelf), shelf.greatest()]
    for holder in HOLDERS:
        told += [shelf.wishes(holder), shelf.greatest(holder)]
    for wish in [(), A, B, AB, WIDE, LOW, HIGH]:
        told += [shelf.holders(wish), shelf.over(wish)]
    return told + [shelf.who(()), shelf.who((("a", 1),)), shelf.who((("a", 1), ("b", 1)))]


def a_shelf():
    shelf = Shelf()
    shelf.put("ann", [A, LOW])
    shelf.put("ben", [B, A])
    shelf.put("7", [HIGH])
    return shelf


class PutAndTake(unittest.TestCase):
    def check(self, due, ask, holder, wishes):
        """The tuple that is due, of two lists that are the asker's own."""
        handed = list(wishes)
        told = ask(holder, wishes)
        self.assertIs(type(told), tuple)
        self.assertEqual([type(part) for part in told], [list, list])
        self.assertEqual(told, due)
        self.assertEqual(wishes, handed)
        check_own(self, told, [wishes])

    def test_as_written(self):
        shelf = Shelf()
        self.check(([LOW], []), shelf.put, "ann", [LOW])
        self.check(([HIGH], []), shelf.put, "ann", [HIGH])
        self.check(([], []), shelf.put, "ben", [A])
        self.check(([WIDE], [LOW, HIGH]), shelf.put, "7", [WIDE])
        self.check(([], []), shelf.take, "ann", [HIGH])
        self.check(([LOW], [WIDE]), shelf.take, "7", [WIDE])
        self.check(([A], [LOW]), shelf.take, "ann", [LOW])
        self.check(([], [A]), shelf.take, "ben", [A])
        self.assertEqual(len(shelf), 0)

    def test_both_in_order(self):
        shelf = Shelf()
        rising = [(("a", None, 0),), (("a", 3, 5),), (("a", 3, 5), ("b", 0, 0)), (("b", 0, 0), ("c", 1, 1))]
        rising += [(("c", 2, 2),)]
        tops = [rising[0], rising[1], rising[3], rising[4]]
        self.check((tops, []), shelf.put, "ann", rising[::-1])
        self.check(([()], tops), shelf.put, "ben", [()])
        self.check((tops, [()]), shelf.take, "ben", [()])
        self.check(([], tops), shelf.take, "ann", [rising[k] for k in (3, 0, 4, 2, 1)])

    def test_of_several_at_a_time_only_the_greatest_come(self):
        shelf = Shelf()
        self.check(([WIDE], []), shelf.put, "ann", [A, LOW, WIDE, HIGH])
        self.check(([LOW, HIGH], [WIDE]), shelf.take, "ann", [WIDE])
        self.check(([A], [LOW, HIGH]), shelf.take, "ann", [HIGH, LOW])
        self.check(([()], [A]), shelf.put, "ann", [B, (), AB])

    def test_several_holders_hold_it(self):
        shelf = Shelf()
        self.check(([A], []), shelf.put, "ann", [A])
        self.check(([], []), shelf.put, "ben", [A])
        self.check(([WIDE], [A]), shelf.put, "7", [WIDE, A])
        self.check(([], []), shelf.put, "ann", [WIDE])
        self.check(([], []), shelf.take, "7", [WIDE])
        self.check(([A], [WIDE]), shelf.take, "ann", [WIDE])
        self.check(([], []), shelf.take, "ann", [A])
        self.check(([], []), shelf.take, "7", [A])
        self.check(([], [A]), shelf.take, "ben", [A])

    def test_none(self):
        shelf = a_shelf()
        before = view(shelf)
        for holder in HOLDERS:
            self.check(([], []), shelf.put, holder, [])
            self.check(([], []), shelf.take, holder, [])
        self.assertEqual(view(shelf), before)
        self.assertEqual(shelf, a_shelf())

    def test_sixty_at_a_time_of_sixty_holders(self):
        shelf = Shelf()
        for k in range(60):
            wishes = [(("a", 60 * k + j, 10000 + 60 * k + j),) for j in range(60)]
            self.check((wishes, []), shelf.put, f"h{k}", wishes[::-1])
        self.assertEqual(len(shelf), 3600)
        self.assertEqual(shelf.who((("a", 10000),)), sorted(f"h{k}" for k in range(60)))

    def test_holders(self):
        shelf = Shelf()
        for holder in ["a", "z", "0", "9", "x" * 15, "1" * 15, "a0", "0a", "abcdefgh1234567"]:
            shelf.put(holder, [A])
            self.assertEqual(shelf.wishes(holder), [A])
        self.assertEqual(len(shelf.holders(A)), 9)

    def test_great_numbers_and_many_fields(self):
        shelf = Shelf()
        great, greater = (("a", -GREAT, GREAT),), (("a", -GREATER, GREATEST),)
        self.check(([great], []), shelf.put, "ann", [great])
        self.check(([greater], [great]), shelf.put, "ann", [greater])
        six = tuple((field, 0, 0) for field in "bcdefg")
        self.check(([six], []), shelf.put, "ann", [six])

    def test_many(self):
        chance = random.Random(9)
        for _ in range(40):
            shelf, model = Shelf(), Model()
            for _ in range(25):
                holder = chance.choice(HOLDERS)
                held = model.held.get(holder, [])
                if chance.random() < 0.55:
                    wishes = sorted({some_wish(chance) for _ in range(3)} - set(held), key=repr)
                    self.check(model.change(holder, wishes, True), shelf.put, holder, wishes)
                else:
                    wishes = chance.sample(held, chance.randrange(len(held) + 1))
                    self.check(model.change(holder, wishes, False), shelf.take, holder, wishes)
                self.check_all(shelf, model)

    def check_all(self, shelf, model):
        self.assertEqual(shelf.greatest(), model.greatest())
        self.assertEqual(len(shelf), len(set(model.pairs())))
        for holder in HOLDERS + ["never"]:
            self.assertEqual(shelf.greatest(holder), model.greatest(holder))
            self.assertEqual(shelf.wishes(holder), in_order(model.held.get(holder, [])))
        for wish in [(), A, (("a", 0, 0),), (("b", 0, 1),), (("a", 0, None), ("b", 1, 1))]:
            self.assertEqual(shelf.holders(wish), sorted(h for h in HOLDERS if wish in model.held.get(h, [])))
            over = [top for top in model.greatest() if covers(top, wish)]
            self.assertEqual(shelf.over(wish), over[0] if over else None)
        for piece in [(), (("a", 0),), (("a", 1), ("b", 0)), (("b", -1),), (("c", 0),)]:
            who = [h for h in HOLDERS if any(wanted_by_words(wish, piece) for wish in model.held.get(h, []))]
            self.assertEqual(shelf.who(piece), sorted(who))


class Refused(unittest.TestCase):
    def check(self, error, name, *arguments):
        shelf = a_shelf()
        before = view(shelf)
        check_refused(self, error, getattr(shelf, name), *arguments)
        self.assertEqual(view(shelf), before)
        self.assertEqual(shelf, a_shelf())

    def test_no_name(self):
        for thing in NO_NAMES:
            self.check(NoName, "put", thing, [AB])
            self.check(NoName, "take", thing, [A])
            self.check(NoName, "put", thing, [])
            self.check(NoName, "take", thing, [])

    def test_no_wish(self):
        for thing in NO_LISTS:
            self.check(NoWish, "put", "z9", thing)
            self.check(NoWish, "take", "ann", thing)

    def test_no_name_goes_ahead_of_no_wish(self):
        for thing in NO_NAMES:
            for other in NO_LISTS[::20] + [[A, A]]:
                self.check(NoName, "put", thing, other)
                self.check(NoName, "take", thing, other)

    def test_twice(self):
        self.check(Twice, "put", "ann", [A])
        self.check(Twice, "put", "ann", [LOW, B])
        self.check(Twice, "put", "ann", [(), WIDE, B, A])
        self.check(Twice, "put", "ben", [A, ()])

    def test_not_wanted(self):
        self.check(NotWanted, "take", "ann", [B])
        self.check(NotWanted, "take", "ann", [A, LOW, HIGH])
        self.check(NotWanted, "take", "ann", [WIDE, A])
        self.check(NotWanted, "take", "z9", [A])
        self.check(NotWanted, "take", "never", [()])

    def test_no_wish_goes_ahead_of_twice_and_not_wanted(self):
        for thing in NO_WISHES[::5]:
            self.check(NoWish, "put", "ann", [A, thing])
            self.check(NoWish, "take", "ann", [B, thing])
        self.check(NoWish, "put", "ann", [A, A])
        self.check(NoWish, "take", "ann", [B, B])
        self.check(NoWish, "take", "ann", [A, A])

    def test_what_was_taken_off_may_be_put_on_again_and_is_not_there(self):
        shelf = a_shelf()
        shelf.take("ann", [A])
        check_refused(self, NotWanted, shelf.take, "ann", [A])
        shelf.put("ann", [A])
        check_refused(self, Twice, shelf.put, "ann", [A])

    def test_asked(self):
        for thing in NO_NAMES:
            self.check(NoName, "wishes", thing)
            if thing is not None:
                self.check(NoName, "greatest", thing)
        for thing in NO_WISHES:
            self.check(NoWish, "holders", thing)
            self.check(NoWish, "over", thing)
        for thing in NO_PIECES:
            self.check(NoPiece, "who", thing)


class Told(unittest.TestCase):
    def test_greatest(self):
        shelf = a_shelf()
        check_told(self, [LOW, HIGH, B], shelf.greatest)
        check_told(self, [LOW, HIGH, B], shelf.greatest, None)
        self.assertEqual(shelf.greatest(beside=None), [LOW, HIGH, B])
        check_told(self, [], Shelf().greatest)
        check_told(self, [], Shelf().greatest, "ann")

    def test_greatest_beside_a_holder(self):
        shelf = a_shelf()
        check_told(self, [A, HIGH, B], shelf.greatest, "ann")
        check_told(self, [LOW, HIGH], shelf.greatest, "ben")
        check_told(self, [LOW, B], shelf.greatest, "7")
        check_told(self, [LOW, HIGH, B], shelf.greatest, "never")
        self.assertEqual(shelf.greatest(beside="7"), [LOW, B])

    def test_what_another_one_holds_too_stays_beside_a_holder(self):
        shelf = a_shelf()
        shelf.put("z9", [WIDE])
        shelf.put("ann", [WIDE])
        check_told(self, [WIDE, B], shelf.greatest, "z9")
        check_told(self, [WIDE, B], shelf.greatest, "ann")
        shelf.take("ann", [WIDE])
        check_told(self, [LOW, HIGH, B], shelf.greatest, "z9")

    def test_length(self):
        self.assertEqual(len(Shelf()), 0)
        shelf = a_shelf()
        self.assertEqual(len(shelf), 4)
        shelf.put("z9", [A, B])
        self.assertEqual(len(shelf), 4)
        shelf.take("ann", [A, LOW])
        self.assertEqual(len(shelf), 3)

    def test_the_same_shelf(self):
        self.assertTrue(Shelf() == Shelf())
        self.assertTrue(a_shelf() == a_shelf())
        self.assertFalse(a_shelf() != a_shelf())
        other = Shelf()
        for holder, wish in [("7", HIGH), ("ben", A), ("ann", LOW), ("ben", B), ("ann", A)]:
            self.assertFalse(other == a_shelf())
            other.put(holder, [wish])
        self.assertTrue(other == a_shelf())
        self.assertFalse(other != a_shelf())

    def test_not_the_same_shelf(self):
        self.assertFalse(a_shelf() == Shelf())
        self.assertTrue(a_shelf() != Shelf())
        one, other = Shelf(), Shelf()
        one.put("ann", [A])
        other.put("ben", [A])
        self.assertFalse(one == other)
        other.put("ann", [A])
        self.assertFalse(one == other)
        self.assertFalse(other == one)
        other.take("ben", [A])
        self.assertTrue(one == other)
        # What is covered counts, too, though the greatest ones are the same.
        one.put("ann", [WIDE])
        other.put("ann", [WIDE, LOW])
        self.assertEqual(one.greatest(), other.greatest())
        self.assertFalse(one == other)

    def test_no_other_thing_is_the_same(self):
        for thing in odd_things() + [0, [], {}]:
            self.assertFalse(Shelf() == thing)
            self.assertTrue(a_shelf() != thing)

    def test_a_holder_that_holds_none_is_as_one_that_never_did(self):
        shelf = Shelf()
        shelf.put("ann", [])
        self.assertTrue(shelf == Shelf())
        shelf.put("ann", [A, B])
        shelf.take("ann", [B])
        shelf.take("ann", [A])
        self.assertTrue(shelf == Shelf())
        self.assertTrue(Shelf() == shelf)
        shelf.take("ben", [])
        self.assertTrue(shelf == Shelf())

    def test_wishes(self):
        shelf = a_shelf()
        check_told(self, [LOW, A], shelf.wishes, "ann")
        check_told(self, [A, B], shelf.wishes, "ben")
        check_told(self, [HIGH], shelf.wishes, "7")
        check_told(self, [], shelf.wishes, "never")
        shelf.take("7", [HIGH])
        check_told(self, [], shelf.wishes, "7")

    def test_holders(self):
        shelf = a_shelf()
        check_told(self, ["ann", "ben"], shelf.holders, A)
        check_told(self, ["7"], shelf.holders, HIGH)
        check_told(self, [], shelf.holders, WIDE)
        check_told(self, [], shelf.holders, ())
        for holder in ["z9", "7", "ann1", "a"]:
            shelf.put(holder, [A])
        check_told(self, ["7", "a", "ann", "ann1", "ben", "z9"], shelf.holders, A)
        shelf.take("ann", [A])
        check_told(self, ["7", "a", "ann1", "ben", "z9"], shelf.holders, A)

    def test_who(self):
        shelf = a_shelf()
        check_told(self, ["ann", "ben"], shelf.who, (("a", 1),))
        check_told(self, ["7", "ann"], shelf.who, (("a", 4),))
        check_told(self, ["7"], shelf.who, (("a", 9), ("c", 1)))
        check_told(self, ["ben"], shelf.who, (("b", 1),))
        check_told(self, [], shelf.who, ())
        check_told(self, [], shelf.who, (("a", 10), ("b", 0)))
        shelf.put("a", [()])
        check_told(self, ["a"], shelf.who, ())
        check_told(self, ["7", "a", "ann", "ben"], shelf.who, (("a", 4), ("b", 2)))

    def test_over(self):
        shelf = a_shelf()
        check_told(self, LOW, shelf.over, A)
        check_told(self, LOW, shelf.over, LOW)
        check_told(self, LOW, shelf.over, (("a", 4, 5),))
        check_told(self, HIGH, shelf.over, (("a", 4, 6),))
        check_told(self, LOW, shelf.over, AB)
        check_told(self, B, shelf.over, (("a", 4, 60), ("b", 1, 1)))
        check_told(self, None, shelf.over, WIDE)
        check_told(self, None, shelf.over, ())
        check_told(self, None, Shelf().over, A)
        shelf.put("z9", [()])
        check_told(self, (), shelf.over, A)
        check_told(self, (), shelf.over, ())


class Own(unittest.TestCase):
    """What is handed in is not kept, and what is told is the asker's own."""

    def test_what_is_handed_in(self):
        shelf = Shelf()
        wishes = [A, B]
        shelf.put("ann", wishes)
        wishes.clear()
        self.assertEqual(shelf.wishes("ann"), [A, B])
        wishes += [A]
        shelf.take("ann", wishes)
        wishes += [B]
        self.assertEqual(shelf.wishes("ann"), [B])

    def test_what_is_told(self):
        shelf = a_shelf()
        told = [shelf.put("z9", [WIDE]), shelf.take("z9", [WIDE]), shelf.put("z9", []), shelf.take("z9", [])]
        told += [shelf.greatest(), shelf.greatest(), shelf.greatest("ann"), shelf.wishes("ann"), shelf.holders(A)]
        told += [shelf.who((("a", 1),)), shelf.greatest("never"), shelf.wishes("never"), shelf.wishes("never")]
        check_own(self, told, [])
        for one in lists_within(told):
            one.clear()
        self.assertEqual(view(shelf), view(a_shelf()))
        self.assertEqual(shelf, a_shelf())

    def test_two_shelves_have_nothing_in_common(self):
        one, other = Shelf(), Shelf()
        one.put("ann", [A])
        self.assertEqual(len(other), 0)
        self.assertEqual(other.wishes("ann"), [])


if __name__ == "__main__":
    unittest.main()

"""Promises 6 to 8, and of 2 and 3 what they say of wishes and pieces."""

import itertools
import unittest

from helper import GREAT, GREATER, GREATEST, NO_PIECES, NO_WISHES
from helper import check_refused, check_told, odd_things, same, snapshot, wanted_by_words
from newsways.errors import NoPiece, NoWish
from newsways.wishes import covers, in_order, is_piece, is_wish, parting_piece, wants, wish_met

SPANS = [(None, None), (None, -1), (None, 0), (0, None), (1, None), (0, 0), (0, 1), (1, 1), (-1, 1)]
WISHES = [
    tuple((field,) + span for field, span in zip(fields, spans))
    for fields in [(), ("a",), ("b",), ("a", "b")]
    for spans in itertools.product(SPANS, repeat=len(fields))
]
# All pieces of these fields whose numbers lie about the ends above: two wishes that part do so on one of them.
PIECES = [
    tuple((field, number) for field, number in zip("ab", numbers) if number is not None)
    for numbers in itertools.product([None, -2, -1, 0, 1, 2], repeat=2)
]

LETTERS = "abcdefghijklmnopqrstuvwxyz"


class IsWish(unittest.TestCase):
    def test_wishes(self):
        for wish in WISHES:
            check_told(self, True, is_wish, wish)

    def test_edges(self):
        check_told(self, True, is_wish, ())
        check_told(self, True, is_wish, (("a", None, None),))
        check_told(self, True, is_wish, (("a", 3, 3),))
        check_told(self, True, is_wish, (("abcdefgh", 1, 2),))
        check_told(self, True, is_wish, (("a", 1, 2), ("aa", 1, 2), ("ab", 1, 2), ("b", 1, 2)))
        check_told(self, True, is_wish, (("zzzzzzzy", 1, 2), ("zzzzzzzz", 1, 2)))
        for letter in LETTERS:
            check_told(self, True, is_wish, ((letter, 1, 2),))

    def test_however_many_fields_and_however_great_numbers(self):
        check_told(self, True, is_wish, tuple((letter, -GREAT, GREAT) for letter in LETTERS))
        check_told(self, True, is_wish, (("a", -GREATER, GREATEST),))

    def test_anything_else(self):
        for thing in NO_WISHES:
            check_told(self, False, is_wish, thing)


class IsPiece(unittest.TestCase):
    def test_pieces(self):
        for piece in PIECES:
            check_told(self, True, is_piece, piece)

    def test_edges(self):
        check_told(self, True, is_piece, ())
        check_told(self, True, is_piece, (("a", 0),))
        check_told(self, True, is_piece, (("abcdefgh", -1),))
        check_told(self, True, is_piece, (("a", 1), ("aa", 1), ("ab", 1), ("b", 1)))
        for letter in LETTERS:
            check_told(self, True, is_piece, ((letter, 5),))

    def test_however_many_fields_and_however_great_numbers(self):
        check_told(self, True, is_piece, tuple((letter, GREAT) for letter in LETTERS))
        check_told(self, True, is_piece, (("a", -GREATER), ("b", GREATEST)))

    def test_anything_else(self):
        for thing in NO_PIECES:
            check_told(self, False, is_piece, thing)

    def test_a_wish_is_no_piece_but_of_no_fields(self):
        for wish in WISHES:
            check_told(self, wish == (), is_piece, wish)
        for piece in PIECES:
            check_told(self, piece == (), is_wish, piece)


class Wants(unittest.TestCase):
    def test_each_two(self):
        for wish in WISHES:
            for piece in PIECES:
                self.assertIs(wants(wish, piece), wanted_by_words(wish, piece))

    def test_fields_that_the_wish_has_not_do_not_matter(self):
        wish = (("b", 1, 3),)
        check_told(self, True, wants, wish, (("a", 9), ("b", 1), ("c", 9)))
        check_told(self, True, wants, wish, (("b", 3),))
        check_told(self, False, wants, wish, (("a", 2), ("c", 2)))
        check_told(self, False, wants, wish, (("bb", 2),))
        check_told(self, False, wants, wish, ())

    def test_the_wish_of_no_fields_wants_every_piece(self):
        for piece in PIECES + [(("z", GREATER),)]:
            check_told(self, True, wants, (), piece)

    def test_a_field_without_ends_must_be_there(self):
        check_told(self, True, wants, (("a", None, None),), (("a", GREATER),))
        check_told(self, False, wants, (("a", None, None),), (("b", 1),))
        check_told(self, False, wants, (("a", None, None),), ())

    def test_great_numbers(self):
        check_told(self, True, wants, (("a", -GREAT, GREAT),), (("a", GREAT),))
        check_told(self, False, wants, (("a", -GREAT, GREAT),), (("a", GREAT + 1),))
        check_told(self, True, wants, (("a", GREATEST, None),), (("a", GREATEST),))

    def test_refused(self):
        for thing in NO_WISHES:
            check_refused(self, NoWish, wants, thing, (("a", 1),))
        for thing in NO_PIECES:
            check_refused(self, NoPiece, wants, (("a", 1, 2),), thing)
            check_refused(self, NoPiece, wants, (), thing)

    def test_no_wish_goes_ahead_of_no_piece(self):
        for thing, other in itertools.product(NO_WISHES[::3], NO_PIECES[::3]):
            check_refused(self, NoWish, wants, thing, other)


class TwoWishes(unittest.TestCase):
    """Covering, meeting and parting, each by what the two wishes want of the pieces."""

    def setUp(self):
        self.wanted = {wish: [piece for piece in PIECES if wants(wish, piece)] for wish in WISHES}

    def pairs(self):
        return itertools.product(WISHES, WISHES)

    def test_covers(self):
        for one, other in self.pairs():
            due = set(self.wanted[other]) <= set(self.wanted[one])
            self.assertIs(covers(one, other), due, f"{one} {other}")

    def test_wish_met(self):
        for one, other in self.pairs():
            both = [piece for piece in self.wanted[one] if piece in self.wanted[other]]
            met = wish_met(one, other)
            self.assertEqual(met is None, not both, f"{one} {other}")
            if met is not None:
                self.assertTrue(is_wish(met))
                self.assertEqual([piece for piece in PIECES if wants(met, piece)], both)

    def test_parting_piece(self):
        for one, other in self.pairs():
            piece = parting_piece(one, other)
            self.assertEqual(piece is None, covers(other, one), f"{one} {other}")
            if piece is not None:
                self.assertTrue(is_piece(piece))
                self.assertTrue(wants(one, piece), f"{one} {other} {piece}")
                self.assertFalse(wants(other, piece), f"{one} {other} {piece}")
                check_told(self, piece, parting_piece, one, other)

    def test_covers_as_written(self):
        check_told(self, True, covers, (), (("a", 1, 2),))
        check_told(self, False, covers, (("a", None, None),), ())
        check_told(self, True, covers, (), ())
        check_told(self, True, covers, (("a", 1, 4),), (("a", 2, 3), ("b", 0, 0)))
        check_told(self, False, covers, (("a", 2, 3), ("b", None, None)), (("a", 2, 3),))
        check_told(self, False, covers, (("a", 1, 4),), (("a", 1, 5),))
        check_told(self, False, covers, (("a", 1, 4),), (("b", 1, 4),))

    def test_met_as_written(self):
        check_told(self, (), wish_met, (), ())
        check_told(self, (("a", 1, 2),), wish_met, (), (("a", 1, 2),))
        check_told(self, (("a", 2, 3), ("b", 0, None)), wish_met, (("a", 1, 3), ("b", 0, None)), (("a", 2, 9),))
        check_told(self, (("a", 1, 1), ("b", 2, 2)), wish_met, (("b", 2, 2),), (("a", 1, 1),))
        check_told(self, (("a", 3, 3),), wish_met, (("a", None, 3),), (("a", 3, None),))
        check_told(self, None, wish_met, (("a", None, 2), ("b", 1, 1)), (("a", 3, None), ("b", 1, 1)))

    def test_met_of_many_fields_may_be_handed_in_again(self):
        one = tuple((letter, 0, None) for letter in "acegik")
        other = tuple((letter, None, 9) for letter in "bdfhjl")
        met = wish_met(one, other)
        self.assertEqual(met, tuple((c, 0, None) if c in "acegik" else (c, None, 9) for c in "abcdefghijkl"))
        check_told(self, met, wish_met, met, one)
        check_told(self, True, covers, other, met)
        piece = parting_piece(met, (("m", 1, 1),))
        check_told(self, True, wants, met, piece)

    def test_parting_beyond_the_numbers_that_may_be_handed_in(self):
        for one, other in [
            ((("a", None, None),), (("a", -GREAT, GREAT),)),
            ((("a", GREAT, None),), (("a", None, GREAT),)),
            ((("a", None, -GREAT),), (("a", -GREAT, None),)),
            ((("a", 0, None), ("b", None, 0)), (("a", 0, GREATER), ("b", -GREATER, 0))),
            ((), (("a", None, None),)),
        ]:
            piece = parting_piece(one, other)
            check_told(self, True, wants, one, piece)
            check_told(self, False, wants, other, piece)
            check_told(self, piece, parting_piece, one, other)
        check_told(self, None, parting_piece, (("a", -GREATER, GREATER),), (("a", -GREATER, GREATER),))

    def test_refused(self):
        wish = (("a", 1, 2),)
        for ask in (covers, wish_met, parting_piece):
            for thing in NO_WISHES:
                check_refused(self, NoWish, ask, thing, wish)
                check_refused(self, NoWish, ask, wish, thing)
                check_refused(self, NoWish, ask, (), thing)
                check_refused(self, NoWish, ask, thing, thing)


RISING = [
    (),
    (("a", None, -5),),
    (("a", None, 3),),
    (("a", None, 3), ("b", 1, 1)),
    (("a", None, None),),
    (("a", -GREATER, -GREAT),),
    (("a", -7, 0),),
    (("a", 0, 0),),
    (("a", 0, 2),),
    (("a", 0, 2), ("aa", None, None)),
    (("a", 0, 2), ("b", None, 0)),
    (("a", 0, 2), ("b", None, 0), ("c", 1, 1)),
    (("a", 0, 2), ("b", None, None)),
    (("a", 0, 2), ("b", 0, 9)),
    (("a", 0, 10),),
    (("a", 0, GREAT),),
    (("a", 0, None),),
    (("a", 2, 9),),
    (("a", 10, 10),),
    (("a", GREATER, None),),
    (("aa", None, 1),),
    (("ab", None, None),),
    (("abcdefgh", 0, 0),),
    (("b", None, 0),),
    (("b", None, 0), ("c", None, None)),
    (("z", 1, 1),),
]


class InOrder(unittest.TestCase):
    def test_each_two(self):
        for at, ahead in enumerate(RISING):
            for behind in RISING[at:]:
                check_told(self, [ahead, behind], in_order, [ahead, behind])
                check_told(self, [ahead, behind], in_order, [behind, ahead])

    def test_all_from_any_order(self):
        check_told(self, RISING, in_order, RISING)
        check_told(self, RISING, in_order, RISING[::-1])
        for step in (3, 5, 7, 9, 11):
            mixed = [RISING[k * step % len(RISING)] for k in range(len(RISING))]
            self.assertEqual(set(mixed), set(RISING))
            check_told(self, RISING, in_order, mixed)

    def test_alike_ones_as_often_as_they_stand(self):
        one, other = (("a", 1, 2),), (("a", 1, None),)
        check_told(self, [one, one, one, other, other], in_order, [other, one, one, other, one])
        check_told(self, [(), ()], in_order, [(), ()])

    def test_lists_of_none_and_of_one(self):
        check_told(self, [], in_order, [])
        check_told(self, [()], in_order, [()])

    def test_a_list_of_two_hundred(self):
        wishes = [(("a", k * 77 % 200, None),) for k in range(200)]
        check_told(self, [(("a", k, None),) for k in range(200)], in_order, wishes)

    def test_the_list_told_is_a_new_one(self):
        wishes = [(), (("a", 1, 2),)]
        told = in_order(wishes)
        self.assertIsNot(told, wishes)
        self.assertIsNot(in_order(wishes), told)
        told.clear()
        self.assertEqual(wishes, [(), (("a", 1, 2),)])
        self.assertEqual(in_order(wishes), [(), (("a", 1, 2),)])
        empty = []
        self.assertIsNot(in_order(empty), empty)

    def test_what_is_no_list_of_wishes(self):
        wish = (("a", 1, 2),)
        for thing in odd_things() + [(), (wish,), ((),), wish, {wish: 1}, {wish}, "", GREATEST, iter([wish])]:
            check_refused(self, NoWish, in_order, thing)

    def test_a_list_with_what_is_no_wish(self):
        wish = (("a", 1, 2),)
        for thing in NO_WISHES:
            check_refused(self, NoWish, in_order, [thing])
            check_refused(self, NoWish, in_order, [wish, thing])
            check_refused(self, NoWish, in_order, [thing, wish, ()])


class Helper(unittest.TestCase):
    def test_same_tells_kinds_apart(self):
        self.assertFalse(same([1], [True]))
        self.assertFalse(same([1], (1,)))
        self.assertTrue(same(snapshot(RISING), RISING))


if __name__ == "__main__":
    unittest.main()

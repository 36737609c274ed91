"""Promises 9 to 12, and of 2, 3 and 8 what they say of lists of wishes."""

import itertools
import random
import unittest

from helper import BAD_FIELDS, GREAT, GREATER, GREATEST, NO_WISHES, Other
from helper import check_refused, check_told, nested, odd_things, wanted_by_words
from newsways.errors import NoField, NoWish, TooMany
from newsways.lists import greatest, how_many_pieces, lean, uncovered_piece
from newsways.wishes import covers, in_order, is_piece, wants

SPANS = [(None, None), (None, -1), (None, 0), (0, None), (1, None), (0, 0), (0, 1), (1, 1), (-1, 1), (-1, -1)]
# Spans whose ends lie between these part on one of these numbers, or on a field that a piece lacks.
NUMBERS = [None, -2, -1, 0, 1, 2]
PIECES = [
    tuple((field, number) for field, number in zip("abc", numbers) if number is not None)
    for numbers in itertools.product(NUMBERS, repeat=3)
]
A, B, AB = (("a", 1, 2),), (("b", 1, 2),), (("a", 1, 2), ("b", 1, 2))
SIX = tuple((field, 0, 9) for field in "abcdef")
NO_LISTS = odd_things() + [(), (A,), ((),), A, {A: 1}, {A}, "", GREATEST, nested(20)]


def some_wish(chance, fields="abc"):
    return tuple((field,) + chance.choice(SPANS) for field in fields if chance.random() < 0.6)


def some_lists(seed, many, fields="abc"):
    """Lists of up to seven wishes of these fields, alike ones among them."""
    chance = random.Random(seed)
    for _ in range(many):
        wishes = [some_wish(chance, fields) for _ in range(chance.randrange(8))]
        if wishes and chance.random() < 0.3:
            wishes[0] = wishes[-1]
        yield wishes


def wanted(wish, pieces=PIECES):
    return frozenset(piece for piece in pieces if wanted_by_words(wish, piece))


def wanted_by_some(wishes, pieces=PIECES):
    return frozenset().union(*[wanted(wish, pieces) for wish in wishes])


def greatest_by_words(wishes, pieces=PIECES):
    tops = []
    for wish in wishes:
        over = [other for other in wishes if other != wish and wanted(wish, pieces) <= wanted(other, pieces)]
        if not over and wish not in tops:
            tops.append(wish)
    return in_order(tops)


class NoLists(unittest.TestCase):
    """What is no list of wishes, of anything, is refused by all of them."""

    def asks(self):
        return [greatest, lean, how_many_pieces, lambda wishes: uncovered_piece((), wishes)]

    def test_no_list(self):
        for ask in self.asks():
            for thing in NO_LISTS:
                check_refused(self, NoWish, ask, thing)

    def test_a_list_with_what_is_no_wish(self):
        for ask in self.asks():
            for thing in NO_WISHES:
                check_refused(self, NoWish, ask, [thing])
                check_refused(self, NoWish, ask, [A, thing, ()])

    def test_ahead_of_too_many(self):
        for ask in self.asks()[1:]:
            for thing in NO_WISHES:
                check_refused(self, NoWish, ask, [A] * 7 + [thing])
                check_refused(self, NoWish, ask, [SIX, thing])


class Greatest(unittest.TestCase):
    def test_as_written(self):
        check_told(self, [], greatest, [])
        check_told(self, [()], greatest, [()])
        check_told(self, [A], greatest, [A])
        check_told(self, [A, B], greatest, [B, AB, A])
        check_told(self, [()], greatest, [B, AB, (), A])
        check_told(self, [A], greatest, [AB, A])
        check_told(self, [(("a", 0, 9),)], greatest, [(("a", 1, 2),), (("a", 0, 9),), (("a", 0, 8),), (("a", 9, 9),)])

    def test_alike_ones_once(self):
        check_told(self, [A], greatest, [A, A])
        check_told(self, [A, B], greatest, [B, A, AB, B, A, AB, A])
        check_told(self, [()], greatest, [(), (), ()])

    def test_what_only_several_cover_stays(self):
        wishes = [(("a", 1, 4),), (("a", 0, 2),), (("a", 3, 9),)]
        check_told(self, [(("a", 0, 2),), (("a", 1, 4),), (("a", 3, 9),)], greatest, wishes)

    def test_a_field_without_ends_is_covered_by_its_lack(self):
        check_told(self, [()], greatest, [(("a", None, None),), ()])
        check_told(self, [(("a", None, None),)], greatest, [(("a", None, 3),), (("a", None, None),), (("a", 3, None),)])

    def test_in_order(self):
        wishes = [(("b", 0, 0),), (("a", 5, None),), (("a", 2, 7),), (("a", None, 3),), (("aa", 1, 1),), (("a", 2, 6),)]
        due = [(("a", None, 3),), (("a", 2, 7),), (("a", 5, None),), (("aa", 1, 1),), (("b", 0, 0),)]
        check_told(self, due, greatest, wishes)
        check_told(self, due, greatest, wishes[::-1])

    def test_many(self):
        for wishes in some_lists(1, 150):
            check_told(self, greatest_by_words(wishes), greatest, wishes)

    def test_a_list_of_two_hundred(self):
        chain = [(("a", 0, k * 77 % 200),) for k in range(200)]
        check_told(self, [(("a", 0, 199),)], greatest, chain)
        unlike = [(("a", k * 77 % 200, 500 + k * 77 % 200),) for k in range(200)]
        check_told(self, [(("a", k, 500 + k),) for k in range(200)], greatest, unlike)
        check_told(self, [A], greatest, [A] * 200)

    def test_many_fields_and_great_numbers(self):
        check_told(self, [SIX[:5]], greatest, [SIX, SIX[:5]])
        check_told(self, [(("a", 0, GREATEST),)], greatest, [(("a", 0, GREATER),), (("a", 0, GREATEST),)])
        check_told(self, [(("a", None, GREAT),), (("a", -GREAT, None),)], greatest,
                   [(("a", -GREAT, None),), (("a", -GREAT, GREAT),), (("a", None, GREAT),)])

    def test_no_bound_of_fields_or_wishes(self):
        wishes = [((field, 0, 0),) for field in "abcdefghij"]
        check_told(self, wishes, greatest, wishes[::-1])


class UncoveredPiece(unittest.TestCase):
    def check_gap(self, wish, wishes):
        piece = uncovered_piece(wish, wishes)
        self.assertTrue(is_piece(piece))
        # Without a message: very great numbers cannot be written out.
        self.assertTrue(wanted_by_words(wish, piece))
        for other in wishes:
            self.assertFalse(wanted_by_words(other, piece))
        check_told(self, piece, uncovered_piece, wish, wishes)
        return piece

    def check_none(self, wish, wishes):
        check_told(self, None, uncovered_piece, wish, wishes)

    def test_no_wishes(self):
        self.assertEqual(self.check_gap((), []), ())
        self.check_gap(A, [])
        self.check_gap((("a", None, None), ("b", None, 3), ("c", 5, None)), [])

    def test_one_covers_it(self):
        self.check_none(A, [A])
        self.check_none(A, [()])
        self.check_none((), [()])
        self.check_none(AB, [B])
        self.check_none((("a", None, None),), [(("a", None, None),)])

    def test_a_field_more_covers_nothing(self):
        self.check_gap((), [(("a", None, None),)])
        self.check_gap(A, [AB, B])
        self.check_gap(A, [(("a", None, None), ("b", None, 0)), (("a", None, None), ("b", 1, None))])
        self.check_gap(A, [(("b", None, None),)])

    def test_only_several_together_cover_it(self):
        self.check_none((("a", 0, 9),), [(("a", 5, 20),), (("a", -3, 4),)])
        self.check_none((("a", None, None),), [(("a", None, 3),), (("a", 4, None),)])
        self.check_none((("a", None, None),), [(("a", 8, None),), (("a", None, 3),), (("a", 4, 7),)])
        self.check_none((("a", 0, 1), ("b", 0, 1)), [
            (("a", 0, 0), ("b", 0, 0)), (("a", 0, 0), ("b", 1, 1)),
            (("a", 1, 1), ("b", 0, 0)), (("a", 1, 1), ("b", 1, 1)),
        ])
        self.check_none((("a", None, None), ("b", None, None), ("c", None, None)), [
            (("a", 1, None),), (("b", 1, None),), (("c", 1, None),), (("a", None, 0), ("b", None, 0), ("c", None, 0)),
        ])

    def test_the_one_piece_that_is_left(self):
        self.assertEqual(self.check_gap((("a", None, None),), [(("a", None, 3),), (("a", 5, None),)]), (("a", 4),))
        self.assertEqual(self.check_gap((("a", 0, 9),), [(("a", None, 8),)]), (("a", 9),))
        self.assertEqual(self.check_gap((("a", 0, 9),), [(("a", 1, None),)]), (("a", 0),))
        frame = [(("a", None, 4),), (("a", 6, None),), (("b", None, -1),), (("b", 1, None),), (("c", None, 7),),
                 (("c", 9, None),)]
        wish = (("a", None, None), ("b", None, None), ("c", None, None))
        self.assertEqual(self.check_gap(wish, frame), (("a", 5), ("b", 0), ("c", 8)))
        self.check_none(wish, frame + [(("a", 5, 5), ("b", 0, 0), ("c", 8, 8))])

    def test_numbers_beside_the_ends_that_were_handed_in(self):
        piece = self.check_gap((("a", None, None),), [(("a", -GREAT, GREAT),)])
        self.assertGreater(abs(piece[0][1]), GREAT)
        self.assertEqual(self.check_gap((("a", 0, None),), [(("a", None, GREAT),)])[0][1] > GREAT, True)
        self.assertEqual(self.check_gap((("a", None, 0),), [(("a", -GREAT, None),)])[0][1] < -GREAT, True)
        wish = (("a", None, None), ("b", None, None), ("c", None, None))
        self.check_gap(wish, [((field, -GREAT, GREAT),) for field in "abc"])
        self.check_none((("a", -GREAT, GREAT),), [(("a", -GREAT, -1),), (("a", 0, GREAT),)])

    def test_what_is_told_may_be_handed_in(self):
        wish = (("a", None, None),)
        wishes = [(("a", -GREAT, GREAT),)]
        for _ in range(6):
            number = self.check_gap(wish, wishes)[0][1]
            wishes.append((("a", number, number),))
        self.check_gap((("a", None, GREATEST),), [(("a", None, GREATER),), (("a", GREATER + 2, None),)])

    def test_many(self):
        found = {True: 0, False: 0}
        for wishes in some_lists(2, 600):
            wish = wishes.pop() if wishes else ()
            left = wanted(wish) - wanted_by_some(wishes)
            found[bool(left)] += 1
            if left:
                self.check_gap(wish, wishes)
            else:
                self.check_none(wish, wishes)
        self.assertGreater(min(found.values()), 100)

    def test_many_that_are_nearly_covered(self):
        """Small wishes, which together often fill a square of nine pieces."""
        chance = random.Random(3)
        found = {True: 0, False: 0}
        wish = (("a", 0, 2), ("b", 0, 2))
        for _ in range(300):
            wishes = []
            for _ in range(chance.randrange(3, 8)):
                lows = [chance.randrange(-1, 3), chance.randrange(-1, 3)]
                highs = [low + chance.randrange(2) for low in lows]
                wishes.append((("a", lows[0], highs[0]), ("b", lows[1], highs[1])))
                wishes[-1] = chance.choice([wishes[-1], wishes[-1][:1], wishes[-1][1:]])
            cells = [(("a", a), ("b", b)) for a in range(3) for b in range(3)]
            left = [cell for cell in cells if not any(wanted_by_words(other, cell) for other in wishes)]
            found[bool(left)] += 1
            if left:
                self.assertIn(self.check_gap(wish, wishes), left)
            else:
                self.check_none(wish, wishes)
        self.assertGreater(min(found.values()), 30)

    def test_seven_wishes_and_three_fields_are_few_enough(self):
        self.check_none(A, [A] * 7)
        self.check_gap((("a", 0, 9),), [(("a", k, k),) for k in range(7)])
        self.check_gap((("a", 1, 1), ("b", 1, 1), ("c", 1, 1)), [(("a", 2, 2),), (("b", 2, 2), ("c", 1, 1))])
        self.check_gap((("z", 1, 1),), [(("x", 2, 2), ("y", 2, 2)), (("z", 2, 2),)])

    def test_too_many_wishes(self):
        check_refused(self, TooMany, uncovered_piece, A, [A] * 8)
        check_refused(self, TooMany, uncovered_piece, (), [()] * 8)
        check_refused(self, TooMany, uncovered_piece, A, [(("a", k, k),) for k in range(8)])
        check_refused(self, TooMany, uncovered_piece, A, [A] * 200)

    def test_too_many_fields(self):
        check_refused(self, TooMany, uncovered_piece, (("d", 1, 1),), [(("a", 1, 1),), (("b", 1, 1), ("c", 1, 1))])
        check_refused(self, TooMany, uncovered_piece, SIX, [])
        check_refused(self, TooMany, uncovered_piece, SIX[:4], [()])
        check_refused(self, TooMany, uncovered_piece, (), [SIX[:4]])
        check_refused(self, TooMany, uncovered_piece, SIX[:2], [SIX[2:4]])

    def test_no_wish(self):
        for thing in NO_WISHES:
            check_refused(self, NoWish, uncovered_piece, thing, [A])
            check_refused(self, NoWish, uncovered_piece, thing, [A] * 8)
            check_refused(self, NoWish, uncovered_piece, SIX, [thing])
            check_refused(self, NoWish, uncovered_piece, thing, thing)


def lean_by_words(wishes, pieces=PIECES):
    stay = greatest_by_words(wishes, pieces)
    for wish in stay[::-1]:
        others = [other for other in stay if other != wish]
        if wanted(wish, pieces) <= wanted_by_some(others, pieces):
            stay = others
    return stay


class Lean(unittest.TestCase):
    def check_lean(self, due, wishes):
        told = lean(wishes)
        self.assertIs(type(told), list)
        for row in told:
            self.assertIs(type(row), tuple)
            self.assertEqual(len(row), 2)
        self.assertEqual([wish for wish, _ in told], due)
        for wish, piece in told:
            self.assertTrue(is_piece(piece))
            self.assertEqual([other for other in due if wanted_by_words(other, piece)], [wish])
        check_told(self, told[:], lean, wishes)

    def test_as_written(self):
        self.check_lean([], [])
        self.check_lean([()], [()])
        self.check_lean([()], [A, (), B])
        self.check_lean([A, B], [AB, B, A, A])

    def test_from_the_last_back_to_the_first(self):
        low, middle, high = (("a", 0, 4),), (("a", 3, 7),), (("a", 5, 9),)
        self.check_lean([low, high], [low, middle, high])
        self.check_lean([low, high], [high, middle, low])
        self.check_lean([(("a", None, 5),), (("a", 6, None),)], [(("a", None, 5),), (("a", 0, 9),), (("a", 6, None),)])
        square = [(("a", 0, 1),), (("a", 0, 2), ("b", 0, 2)), (("a", 1, 2),)]
        self.check_lean([(("a", 0, 1),), (("a", 1, 2),)], square)
        # The others cover the second together, and the third: only the third, which is asked first, goes.
        chain = [(("a", 0, 3),), (("a", 2, 6),), (("a", 4, 8),), (("a", 7, 9),)]
        self.check_lean([chain[0], chain[1], chain[3]], chain)
        self.check_lean([chain[0], chain[1], chain[3]], chain[::-1])

    def test_greatest_first(self):
        self.check_lean([(("a", 0, 9),)], [(("a", 0, 4),), (("a", 5, 9),), (("a", 0, 9),)])

    def test_spans_without_ends(self):
        self.check_lean([(("a", None, 3),), (("a", 2, None),)], [(("a", 2, None),), (("a", None, 3),), (("a", 0, 9),)])
        self.check_lean([(("a", -GREAT, GREAT),), (("a", GREAT, None),)],
                        [(("a", GREAT, None),), (("a", -GREAT, GREAT),)])

    def test_many(self):
        for wishes in some_lists(4, 300):
            due = lean_by_words(wishes)
            self.check_lean(due, wishes)
            self.assertEqual(wanted_by_some(due), wanted_by_some(wishes))

    def test_many_of_which_some_go(self):
        chance = random.Random(5)
        line = [(("a", number),) for number in range(-1, 12)]
        square = [(("a", a), ("b", b)) for a in range(6) for b in range(6)]
        gone = 0
        for fields, pieces, most in [("a", line, 8), ("ab", square, 3)] * 150:
            wishes = []
            for _ in range(chance.randrange(3, 8)):
                lows = [chance.randrange(most) for _ in fields]
                wishes.append(tuple((field, low, low + chance.randrange(1, 4)) for field, low in zip(fields, lows)))
            due = lean_by_words(wishes, pieces)
            gone += len(due) < len(greatest_by_words(wishes, pieces))
            self.check_lean(due, wishes)
        self.assertGreater(gone, 50)

    def test_few_enough(self):
        self.check_lean([A], [A] * 7)
        self.check_lean([((field, 0, 0),) for field in "abc"], [((field, 0, 0),) for field in "abc"])

    def test_too_many_of_the_list_as_it_is_handed_in(self):
        check_refused(self, TooMany, lean, [A] * 8)
        check_refused(self, TooMany, lean, [()] * 8)
        check_refused(self, TooMany, lean, [(), SIX])
        check_refused(self, TooMany, lean, [(), SIX[:2], SIX[2:4]])
        check_refused(self, TooMany, lean, [A] * 200)
        check_refused(self, TooMany, lean, [((field, 0, 0),) for field in "abcd"])


def how_many_by_words(wishes, fields):
    """Of wishes whose ends lie from -2 to 2: by counting, and by looking for what has no end."""
    able = [wish for wish in wishes if all(part[0] in fields for part in wish)]
    for wish in able:
        if len(wish) < len(fields) or any(None in part for part in wish):
            return None
    pieces = [tuple(zip(fields, numbers)) for numbers in itertools.product(range(-2, 3), repeat=len(fields))]
    return sum(any(wanted_by_words(wish, piece) for wish in able) for piece in pieces)


class HowManyPieces(unittest.TestCase):
    def test_the_fields_of_the_wishes(self):
        check_told(self, 2, how_many_pieces, [A])
        check_told(self, 2, how_many_pieces, [A], None)
        check_told(self, 4, how_many_pieces, [AB])
        check_told(self, None, how_many_pieces, [A, B])
        check_told(self, 3, how_many_pieces, [(("a", 1, 2),), (("a", 2, 3),)])
        check_told(self, 5, how_many_pieces, [(("a", 1, 2),), (("a", 7, 9),)])
        check_told(self, 2, how_many_pieces, [A, A, A])
        check_told(self, None, how_many_pieces, [(("a", 1, None),)])
        check_told(self, None, how_many_pieces, [(("a", None, 1),)])
        check_told(self, None, how_many_pieces, [A, ()])

    def test_no_fields(self):
        check_told(self, 0, how_many_pieces, [])
        check_told(self, 1, how_many_pieces, [()])
        check_told(self, 1, how_many_pieces, [(), ()])
        check_told(self, 0, how_many_pieces, [], [])
        check_told(self, 1, how_many_pieces, [()], [])
        check_told(self, 1, how_many_pieces, [A, ()], [])
        check_told(self, 0, how_many_pieces, [A], [])
        check_told(self, 0, how_many_pieces, [(("a", None, None),)], [])

    def test_told_fields(self):
        check_told(self, 2, how_many_pieces, [A], ["a"])
        check_told(self, None, how_many_pieces, [A], ["a", "b"])
        check_told(self, 0, how_many_pieces, [A], ["b"])
        check_told(self, 4, how_many_pieces, [AB], ["a", "b"])
        check_told(self, 0, how_many_pieces, [AB], ["a"])
        check_told(self, 2, how_many_pieces, [AB, A], ["a"])
        check_told(self, 0, how_many_pieces, [], ["a"])
        check_told(self, None, how_many_pieces, [()], ["a"])
        check_told(self, None, how_many_pieces, [(), A], ["b"])

    def test_no_end_only_where_one_wants_a_piece_of_just_these(self):
        check_told(self, 2, how_many_pieces, [A, (("b", None, None),)], ["a"])
        check_told(self, 2, how_many_pieces, [A, (("a", None, None), ("b", 1, 1))], ["a"])
        check_told(self, None, how_many_pieces, [A, (("a", 5, None),)], ["a"])

    def test_by_its_name(self):
        self.assertEqual(how_many_pieces([A], fields=["a"]), 2)
        self.assertEqual(how_many_pieces([A], fields=["b"]), 0)
        self.assertEqual(how_many_pieces([A], fields=None), 2)

    def test_overlapping_ones_are_counted_once(self):
        cross = [(("a", 0, 9), ("b", 4, 5)), (("a", 4, 5), ("b", 0, 9))]
        check_told(self, 36, how_many_pieces, cross)
        cube = [(("a", 0, 1), ("b", 0, 1), ("c", 0, 1)), (("a", 1, 2), ("b", 1, 2), ("c", 1, 2))]
        check_told(self, 15, how_many_pieces, cube)
        nested_ones = [(("a", 0, k),) for k in range(7)]
        check_told(self, 7, how_many_pieces, nested_ones)

    def test_great_numbers(self):
        all_over = (-GREAT, GREAT)
        many = 2 * GREAT + 1
        check_told(self, many ** 3, how_many_pieces, [tuple((field,) + all_over for field in "abc")])
        check_told(self, many, how_many_pieces, [(("a", -GREAT, 0),), (("a", 0, GREAT),), (("a", -1, 1),)])
        check_told(self, 2 * GREATEST + 1, how_many_pieces, [(("a", -GREATEST, GREATEST),)])

    def test_many(self):
        chance = random.Random(6)
        ends = [(-2, -1), (-2, 2), (-1, 0), (0, 0), (0, 2), (1, 1), (1, 2), (2, 2), (0, 1)]
        found = []
        for _ in range(500):
            fields = chance.choice([[], ["a"], ["b"], ["a", "b"], ["a", "c"], ["a", "b", "c"]])
            wishes = []
            for _ in range(chance.randrange(8)):
                own = [field for field in "abc" if chance.random() < (0.97 if field in fields else 0.05)]
                wishes.append(tuple((field,) + chance.choice(ends) for field in own))
                if own and chance.random() < 0.05:
                    wishes[-1] = ((own[0], None, 0),) + wishes[-1][1:]
            due = how_many_by_words(wishes, fields)
            check_told(self, due, how_many_pieces, wishes, fields)
            found.append(due)
            own = sorted({part[0] for wish in wishes for part in wish})
            check_told(self, how_many_by_words(wishes, own), how_many_pieces, wishes)
        self.assertGreater(found.count(None), 50)
        self.assertGreater(len([many for many in found if many]), 150)

    def test_no_field(self):
        for thing in self.no_fields():
            check_refused(self, NoField, how_many_pieces, [A], thing)
            check_refused(self, NoField, how_many_pieces, [], thing)

    def no_fields(self):
        bad = [thing for thing in odd_things() if thing is not None]
        bad += [(), ("a",), ("a", "b"), "abc", 0, -1, nested(20)]
        bad += [["b", "a"], ["a", "a"], ["a", "c", "b"], ["ab", "a"], ["a", "b", "b"], ["a", "b", "c", "d"]]
        bad += [[()], [["a"]], [{}], [Other()], [GREATEST], list("abcdefgh"), {"a": True}, {"a"}]
        return bad + [[field] for field in BAD_FIELDS] + [["a", field] for field in BAD_FIELDS]

    def test_no_wish_goes_ahead_of_no_field(self):
        for thing, fields in itertools.product(NO_WISHES[::3], self.no_fields()[::5]):
            check_refused(self, NoWish, how_many_pieces, [thing], fields)
            check_refused(self, NoWish, how_many_pieces, [A] * 8 + [thing], fields)

    def test_no_field_goes_ahead_of_too_many(self):
        for fields in self.no_fields():
            check_refused(self, NoField, how_many_pieces, [A] * 8, fields)
            check_refused(self, NoField, how_many_pieces, [SIX], fields)

    def test_too_many(self):
        for fields in (None, [], ["a"], ["a", "b", "c"], ["x"]):
            check_refused(self, TooMany, how_many_pieces, [A] * 8, fields)
            check_refused(self, TooMany, how_many_pieces, [SIX], fields)
            check_refused(self, TooMany, how_many_pieces, [SIX[:2], SIX[2:4]], fields)
        check_refused(self, TooMany, how_many_pieces, [()] * 8)
        check_refused(self, TooMany, how_many_pieces, [A] * 200)

    def test_the_told_fields_are_not_counted_for_too_many(self):
        three = (("a", 0, 1), ("b", 0, 2), ("c", 0, 4))
        check_told(self, 30, how_many_pieces, [three], ["a", "b", "c"])
        check_told(self, 0, how_many_pieces, [three], ["x", "y", "z"])
        check_told(self, None, how_many_pieces, [three, ()], ["x", "y", "z"])
        check_told(self, 2, how_many_pieces, [A] * 7, ["a"])


class Together(unittest.TestCase):
    """What the functions of wishes and of lists say of one another."""

    def test_the_greatest_cover_all(self):
        for wishes in some_lists(7, 200):
            tops = greatest(wishes)
            for wish in wishes:
                self.assertTrue(any(covers(top, wish) for top in tops))
                self.assertIsNone(uncovered_piece(wish, tops))

    def test_lean_ones_want_what_the_list_wants(self):
        for wishes in some_lists(8, 200):
            stay = [wish for wish, _ in lean(wishes)]
            for piece in PIECES[::5]:
                due = any(wants(wish, piece) for wish in wishes)
                self.assertEqual(any(wants(wish, piece) for wish in stay), due)
            self.assertEqual(how_many_pieces(stay, ["a", "b", "c"]), how_many_pieces(wishes, ["a", "b", "c"]))


if __name__ == "__main__":
    unittest.main()

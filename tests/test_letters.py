"""Of promise 17 what a name is and what a letter is, and of 2 what it says of them."""

import unittest

from helper import BAD_FIELDS, GREAT, GREATER, GREATEST, NO_NAMES, NO_NUMBERS, NO_PIECES, NO_WAYS, NO_WISHES, Other
from helper import check_told, nested, odd_things
from newsways.letters import is_letter, is_name

WISH = (("a", 1, 2), ("b", None, 3))
PIECE = (("a", 1), ("b", -7))
WANT, UNWANT = ("want", WISH), ("unwant", WISH)
NEWS = ("news", 3, 0, PIECE)
HERE = ("here", "ann", (0, 2))
KEPT = ("kept", "ann", (2, 0, 5), ((1, 4), (3, 0)), ((1, 5, PIECE), (0, 2, ())))
LETTERS = [WANT, UNWANT, NEWS, HERE, KEPT]

NO_MARKS = odd_things() + [
    [], [(1, 4)], [()], ((),), {1: 4}, "", 0, (1, 4), ([1, 4],), ((1,),), ((1, 4, 5),), ((1, 4), (1, 4)),
    ((1, 4), (1, 5)), ((3, 0), (1, 4)), ((1, 4), (3, 0), (2, 9)), ((1, 4), (3, 0), (3, 1)), ((-1, 4),), ((1, -4),),
    ((True, 4),), ((1, True),), ((False, 4),), ((1, False),), ((None, 4),), ((1, None),), (("1", 4),), ((1, "4"),),
    ((1, 4), None), ((1, 4), [3, 0]), ((1, 4), 3, 0), ((1, (4,)),), (((1,), 4),), (({}, 4),), ((1, Other()),),
    nested(20),
]
NO_KEPT = odd_things() + [
    [], [(1, 5, PIECE)], [()], ((),), {}, "", 0, (1, 5, PIECE), ([1, 5, PIECE],), ((1, 5),), ((1, 5, PIECE, 0),),
    ((1, PIECE, 5),), ((-1, 5, PIECE),), ((1, -5, PIECE),), ((True, 5, PIECE),), ((1, False, PIECE),),
    ((None, 5, PIECE),), ((1, None, PIECE),), (("1", 5, PIECE),), ((1, "5", PIECE),), ((1, 5, list(PIECE)),),
    ((1, 5, WISH),),
    ((1, 5, PIECE), None), ((1, 5, PIECE), [1, 5, PIECE]), ((1, 5, PIECE), (1, 5)), ((1, 5, None),), nested(20),
]


def with_place(letter, at, thing):
    return letter[:at] + (thing,) + letter[at + 1:]


class IsName(unittest.TestCase):
    def test_names(self):
        for letter in "abcdefghijklmnopqrstuvwxyz":
            check_told(self, True, is_name, letter)
        for name in ("ann", "abcdefgh", "zz", "want", "zzzzzzzz"):
            check_told(self, True, is_name, name)

    def test_length(self):
        for many in range(0, 20):
            check_told(self, 1 <= many <= 8, is_name, "x" * many)

    def test_anything_else(self):
        for thing in NO_NAMES:
            check_told(self, False, is_name, thing)


class IsLetter(unittest.TestCase):
    def check_places(self, letters, at, things, due):
        for letter in letters:
            for thing in things:
                check_told(self, due, is_letter, with_place(letter, at, thing))

    def test_letters(self):
        for letter in LETTERS:
            check_told(self, True, is_letter, letter)

    def test_want_and_unwant(self):
        wishes = [(), (("a", None, None),), (("abcdefgh", 3, 3),), (("a", -GREATER, GREATEST),)]
        wishes += [tuple((field, 0, 0) for field in "abcdefghij")]
        self.check_places([WANT, UNWANT], 1, wishes, True)
        self.check_places([WANT, UNWANT], 1, NO_WISHES, False)
        self.check_places([WANT, UNWANT], 1, [PIECE, [WISH], (WISH,), list(WISH)], False)

    def test_news(self):
        self.check_places([NEWS], 1, [0, 1, 23, 24, GREAT, GREATEST], True)
        self.check_places([NEWS], 2, [0, 1, 99, GREAT, GREATEST], True)
        self.check_places([NEWS], 3, [(), (("a", GREATER),), tuple((field, 0) for field in "abcdefghij")], True)
        self.check_places([NEWS], 1, NO_NUMBERS, False)
        self.check_places([NEWS], 2, NO_NUMBERS, False)
        self.check_places([NEWS], 3, NO_PIECES + [WISH, list(PIECE), [PIECE], (PIECE,)], False)

    def test_names(self):
        self.check_places([HERE, KEPT], 1, ["a", "abcdefgh", "z", "here"], True)
        self.check_places([HERE, KEPT], 1, ["abcdefghi", "ann1", "", "Ann"] + BAD_FIELDS, False)

    def test_ways(self):
        ways = [(0, 1), (1, 0), (5, 3, 4), tuple(range(24)), (GREAT, 0), (0, GREATEST), (7, 99), tuple(range(200))]
        self.check_places([HERE, KEPT], 2, ways, True)
        self.check_places([HERE, KEPT], 2, NO_WAYS, False)
        for way in ways:
            self.check_places([HERE, KEPT], 2, [list(way), way + way[:1], way[:1], way + (True,), way + (None,)], False)

    def test_marks(self):
        marks = [(), ((0, 0),), ((0, 9), (1, 2), (2, 2)), ((3, 1), (20, 0), (GREAT, GREATEST))]
        marks += [tuple((teller, 5) for teller in range(24))]
        self.check_places([KEPT], 3, marks, True)
        self.check_places([KEPT], 3, NO_MARKS, False)

    def test_pieces(self):
        one, other, third = (1, 5, PIECE), (1, 4, ()), (0, GREATEST, (("a", GREATER),))
        pieces = [(), (one,), (one, other), (other, one), (one, one), (one, other, third, one), (third, one)]
        pieces += [(one,) * 200]
        self.check_places([KEPT], 4, pieces, True)
        self.check_places([KEPT], 4, NO_KEPT, False)
        self.check_places([KEPT], 4, [((1, 5, thing),) for thing in NO_PIECES], False)
        self.check_places([KEPT], 4, [((thing, 5, PIECE),) for thing in NO_NUMBERS], False)
        self.check_places([KEPT], 4, [(one, (1, thing, PIECE)) for thing in NO_NUMBERS], False)

    def test_another_word(self):
        words = ["", "a", "Want", "WANT", "want ", " want", "wants", "wan", "unwanted", "new", "tell", "step", "move"]
        words += [thing for thing in odd_things() if thing != "a"] + [0, b"want", ("want",), ["want"], GREATEST]
        self.check_places(LETTERS, 0, words, False)
        kinds = [WANT, NEWS, HERE, KEPT]
        for one in kinds:
            for other in kinds:
                check_told(self, one == other, is_letter, with_place(one, 0, other[0]))

    def test_no_tuple(self):
        for letter in LETTERS:
            check_told(self, False, is_letter, list(letter))
            check_told(self, False, is_letter, (letter,))
            check_told(self, False, is_letter, [letter])

    def test_too_short_and_too_long(self):
        for letter in LETTERS:
            for many in range(len(letter)):
                check_told(self, False, is_letter, letter[:many])
            for thing in (None, 0, (), WISH, PIECE, letter[-1], "want"):
                check_told(self, False, is_letter, letter + (thing,))
                check_told(self, False, is_letter, (thing,) + letter)

    def test_places_changed_about(self):
        check_told(self, False, is_letter, ("news", 3, PIECE, 0))
        check_told(self, False, is_letter, ("news", PIECE, 3, 0))
        check_told(self, False, is_letter, ("here", (0, 2), "ann"))
        check_told(self, False, is_letter, ("kept", "ann", (2, 0, 5), KEPT[4], KEPT[3]))
        check_told(self, False, is_letter, (WISH, "want"))

    def test_anything_else(self):
        for thing in odd_things() + [(), [], "want", 0, GREATEST, WISH, PIECE, ("want",), ("want", ["a"]), nested(20)]:
            check_told(self, False, is_letter, thing)
        for word in ("want", "unwant", "news", "here", "kept"):
            for many in range(6):
                check_told(self, False, is_letter, (word,) + (None,) * many)
                check_told(self, False, is_letter, (word,) + (True,) * many)
                check_told(self, False, is_letter, (word,) + ([],) * many)


if __name__ == "__main__":
    unittest.main()

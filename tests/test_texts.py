"""Promises 39 and 40, and of 2 and 3 what they say of texts."""

import random
import unittest

from helper import GREAT, GREATER, NO_LETTERS, NO_PIECES, NO_WISHES, check_refused, check_told, nested, odd_things
from helper import some_run, some_web
from newsways.errors import NoDeed, NoLetter, NoPiece, NoText, NoWish
from newsways.letters import is_letter
from newsways.roads import Roads
from newsways.runs import is_deed
from newsways.texts import read_deed, read_letter, read_piece, read_wish, show_deed, show_letter, show_piece, show_wish
from newsways.wishes import is_piece, is_wish

A, PIECE = (("a", 1, 2),), (("b", 3),)
WISHES = {
    "-": (), "a:1..2": A, "a:*..*": (("a", None, None),), "a:*..-1": (("a", None, -1),), "a:0..*": (("a", 0, None),),
    "a:-5..-5": (("a", -5, -5),), "abcdefgh:0..0": (("abcdefgh", 0, 0),), "a:-10..10": (("a", -10, 10),),
    "a:1..2 b:*..3": (("a", 1, 2), ("b", None, 3)), "a:1..1 ab:0..9 b:*..*": (("a", 1, 1), ("ab", 0, 9), ("b", None, None)),
    "z:999999999999999..999999999999999": (("z", GREAT, GREAT),), "z:-999999999999999..*": (("z", -GREAT, None),),
    "a:1..1 b:2..2 c:3..3 d:4..4 e:5..5 f:6..6": tuple((f, n, n) for n, f in enumerate("abcdef", 1)),
}
PIECES = {
    "-": (), "a:1": (("a", 1),), "a:0": (("a", 0),), "a:-1": (("a", -1),), "b:3": PIECE, "a:10 b:-20": (("a", 10), ("b", -20)),
    "abcdefgh:999999999999999": (("abcdefgh", GREAT),), "a:-999999999999999": (("a", -GREAT),),
    "a:1 b:2 c:3 d:4 e:5 f:6 g:7 h:8": tuple((f, n) for n, f in enumerate("abcdefgh", 1)),
}
LETTERS = {
    "want a:1..2": ("want", A), "unwant a:1..2": ("unwant", A), "want -": ("want", ()), "unwant -": ("unwant", ()),
    "want a:1..2 b:*..3": ("want", (("a", 1, 2), ("b", None, 3))), "news 0 0 -": ("news", 0, 0, ()),
    "news 3 14 a:1 b:-7": ("news", 3, 14, (("a", 1), ("b", -7))),
    "news 999999999999999 0 b:3": ("news", GREAT, 0, PIECE), "here ann 0-2": ("here", "ann", (0, 2)),
    "here abcdefgh 10-2-0-999999999999999": ("here", "abcdefgh", (10, 2, 0, GREAT)),
    "kept ann 0-2 1:4,3:0 | 1 5 b:3": ("kept", "ann", (0, 2), ((1, 4), (3, 0)), ((1, 5, PIECE),)),
    "kept ann 0-2 -": ("kept", "ann", (0, 2), (), ()), "kept ann 0-2 0:0": ("kept", "ann", (0, 2), ((0, 0),), ()),
    "kept ann 2-1-0 - | 1 5 -": ("kept", "ann", (2, 1, 0), (), ((1, 5, ()),)),
    "kept ann 0-2 10:4 | 1 5 b:3 | 0 0 - | 1 5 a:1 b:3 | 1 4 b:3": (
        "kept", "ann", (0, 2), ((10, 4),),
        ((1, 5, PIECE), (0, 0, ()), (1, 5, (("a", 1), ("b", 3))), (1, 4, PIECE)),
    ),
}
DEEDS = {
    "come ann 3": ("come", "ann", 3), "go ann": ("go", "ann"), "want ann a:1..2": ("want", "ann", A),
    "want ann -": ("want", "ann", ()), "unwant ann a:1..2 b:*..3": ("unwant", "ann", (("a", 1, 2), ("b", None, 3))),
    "unwant ann -": ("unwant", "ann", ()), "tell 0 b:3": ("tell", 0, PIECE), "tell 10 -": ("tell", 10, ()),
    "tell 0 a:1 b:-7": ("tell", 0, (("a", 1), ("b", -7))), "move abcdefgh 0": ("move", "abcdefgh", 0),
    "grow 999999999999999": ("grow", GREAT), "step 0 12": ("step", 0, 12), "step 0 0": ("step", 0, 0),
}
KINDS = [
    (WISHES, show_wish, read_wish, is_wish), (PIECES, show_piece, read_piece, is_piece),
    (LETTERS, show_letter, read_letter, is_letter), (DEEDS, show_deed, read_deed, is_deed),
]
NO_TEXTS = [thing for thing in odd_things() if thing != "a:1..2"] + [
    "", " ", "-", "*", "\t", "\n", "none", 0, GREATER, (), [], A, PIECE, ["-"], ("-",), b"-", b"a:1", nested(20), "~",
    "x" * 2000, " " * 2000,
]
BAD_NUMBERS = [
    "", "-", "00", "01", "-0", "-00", "-01", "+1", "+0", "--1", "1-", "1.0", "1.", ".1", "1e3", "0x1", "1_0", "1,0", " 1", "1 ",
    "one", "a", "A", "1000000000000000", "9999999999999999", "-1000000000000000", "0" * 16, "1" * 200, "1" * 2000,
    "\u0661", "\uff11", "\u00b2", "\u2460", "1\u0661", "None", "**", "1*", "*1", "-*", "1\n", "\t1", "True", "1:", ":1",
]
SIGNS = [" ", "-", "*", ":", ".", "..", ",", "|", "0", "1", "9", "a", "A", "z", "+", "_", "\n", "\t", "~", "\u0661", "\u00e9"]


class Written(unittest.TestCase):
    def test_each_is_written_so_and_read_back(self):
        for texts, show, read, is_one in KINDS:
            for text, thing in texts.items():
                check_told(self, text, show, thing)
                check_told(self, thing, read, text)

    def test_what_is_none_is_refused(self):
        for things, show, error in (
            (NO_WISHES + ["-", "a:1..2"], show_wish, NoWish), (NO_PIECES + ["-", "a:1"], show_piece, NoPiece),
            (NO_LETTERS + [("come", "ann", 0), "want -"], show_letter, NoLetter),
            (odd_things() + [(), "go ann", ("go",), ("want", A), ("go", "Ann"), ("rest",), ["go", "ann"], nested(20),
                             ("grow", -1), ("grow", True), ("want", "ann", PIECE), ("tell", 0, A)], show_deed, NoDeed),
        ):
            for thing in things:
                check_refused(self, error, show, thing)

    def test_sixteen_figures_are_written_and_not_read(self):
        for number in (GREAT + 1, GREAT * 10, GREATER, -GREAT - 1, -GREATER):
            for text, thing, show, read in (
                (f"a:{number}..*", (("a", number, None),), show_wish, read_wish),
                (f"a:*..{number}", (("a", None, number),), show_wish, read_wish),
                (f"a:{number}", (("a", number),), show_piece, read_piece),
                (f"want a:{number}..*", ("want", (("a", number, None),)), show_letter, read_letter),
                (f"news 0 0 a:{number}", ("news", 0, 0, (("a", number),)), show_letter, read_letter),
                (f"want ann a:{number}..*", ("want", "ann", (("a", number, None),)), show_deed, read_deed),
                (f"tell 0 a:{number}", ("tell", 0, (("a", number),)), show_deed, read_deed),
            ):
                check_told(self, text, show, thing)
                check_refused(self, NoText, read, text)
        for number in (GREAT + 1, GREATER):
            for text, thing in (
                (f"news {number} 0 -", ("news", number, 0, ())), (f"news 0 {number} -", ("news", 0, number, ())),
                (f"here ann 0-{number}", ("here", "ann", (0, number))),
                (f"kept ann 0-1 {number}:0", ("kept", "ann", (0, 1), ((number, 0),), ())),
                (f"kept ann 0-1 0:{number}", ("kept", "ann", (0, 1), ((0, number),), ())),
                (f"kept ann 0-1 - | {number} 0 -", ("kept", "ann", (0, 1), (), ((number, 0, ()),))),
                (f"kept ann 0-1 - | 0 {number} -", ("kept", "ann", (0, 1), (), ((0, number, ()),))),
            ):
                check_told(self, text, show_letter, thing)
                check_refused(self, NoText, read_letter, text)
            for text, thing in (
                (f"come ann {number}", ("come", "ann", number)), (f"tell {number} -", ("tell", number, ())),
                (f"move ann {number}", ("move", "ann", number)), (f"grow {number}", ("grow", number)),
                (f"step {number} 0", ("step", number, 0)), (f"step 0 {number}", ("step", 0, number)),
            ):
                check_told(self, text, show_deed, thing)
                check_refused(self, NoText, read_deed, text)

    def test_many_fields(self):
        fields = [chr(97 + k) for k in range(26)]
        wish, piece = tuple((f, -1, None) for f in fields), tuple((f, -1) for f in fields)
        check_told(self, wish, read_wish, " ".join(f"{f}:-1..*" for f in fields))
        check_told(self, piece, read_piece, " ".join(f"{f}:-1" for f in fields))
        check_told(self, " ".join(f"{f}:-1..*" for f in fields), show_wish, wish)

    def test_letters_and_deeds_of_runs(self):
        for seed in range(20):
            chance = random.Random(seed)
            roads = Roads(some_web(chance))
            some_run(chance, roads, 80)
            for deed, letters, given in roads.rows():
                self.assertEqual(read_deed(show_deed(deed)), deed)
                for p, q, letter in letters:
                    self.assertEqual(read_letter(show_letter(letter)), letter)

    def test_long_letters(self):
        letter = ("kept", "ann", tuple(range(24)), tuple((n, GREAT) for n in range(24)), ((7, GREAT, PIECE),) * 200)
        text = show_letter(letter)
        self.assertGreater(len(text), 2000)
        check_told(self, letter, read_letter, text)


class NoTexts(unittest.TestCase):
    def test_anything(self):
        for thing in NO_TEXTS:
            for texts, show, read, is_one in KINDS:
                if not (thing == "-" and read in (read_wish, read_piece)):
                    check_refused(self, NoText, read, thing)

    def test_texts_of_another_kind(self):
        for texts, show, read, is_one in KINDS:
            for others, other_show, other_read, other_is_one in KINDS:
                for text in others:
                    if text not in texts and not (texts is PIECES and text in texts):
                        check_refused(self, NoText, read, text)

    def test_numbers(self):
        for number in BAD_NUMBERS:
            if number not in ("-", "*"):
                check_refused(self, NoText, read_wish, f"a:{number}..*")
                check_refused(self, NoText, read_wish, f"a:*..{number}")
            check_refused(self, NoText, read_wish, f"a:1..2 b:{number}..{number}")
            check_refused(self, NoText, read_piece, f"a:{number}")
            check_refused(self, NoText, read_piece, f"a:1 b:{number}")
        check_refused(self, NoText, read_piece, "a:*")

    def test_counts(self):
        for number in BAD_NUMBERS + ["-1", "*", "-5"]:
            for text in (f"news {number} 0 -", f"news 0 {number} -", f"here ann {number}-0", f"here ann 0-{number}",
                         f"here ann 0-{number}-1", f"kept ann 0-1 {number}:0", f"kept ann 0-1 0:{number}",
                         f"kept ann 0-1 0:0,{number}:1", f"kept ann 0-1 - | {number} 0 -",
                         f"kept ann 0-1 - | 0 {number} -", f"kept ann {number}-1 -"):
                check_refused(self, NoText, read_letter, text)
            for text in (f"come ann {number}", f"tell {number} -", f"move ann {number}", f"grow {number}",
                         f"step {number} 0", f"step 0 {number}"):
                check_refused(self, NoText, read_deed, text)

    def test_wishes(self):
        for text in (
            "a", "a:", "a:1", "a:1.", "a:1.2", "a:1...2", "a:1..2..3", "a:..", "a:1..", "a:..2", ":1..2", "a1..2", "a:2..1",
            "a:0..-1", "A:1..2", "a1:1..2", "abcdefghi:1..2", "b:1..2 a:1..2", "a:1..2 a:1..2", "a:1..2 a:3..4",
            "a:1..2  b:1..2", " a:1..2", "a:1..2 ", "a:1..2\tb:1..2", "a:1..2\nb:1..2", "a:1..2,b:1..2", "a:1..2 -", "- -",
            "- a:1..2", "--", "a :1..2", "a: 1..2", "a:1 ..2", "a:1.. 2", "a:1..2 | b:1..2", "a::1..2", "a:1..2:", "a:1-2",
            "a:(1, 2)", "a:1..2 b", "none", "()",
        ):
            check_refused(self, NoText, read_wish, text)

    def test_pieces(self):
        for text in (
            "a", "a:", ":1", "a1", "A:1", "a1:1", "abcdefghi:1", "b:1 a:1", "a:1 a:1", "a:1 a:2", "a:1  b:1", " a:1", "a:1 ",
            "a:1\tb:1", "a:1,b:1", "a:1 -", "- -", "- a:1", "a :1", "a: 1", "a:1..1", "a:1..2", "a:1 | b:1", "a::1", "a:1:",
        ):
            check_refused(self, NoText, read_piece, text)

    def test_letters(self):
        for text in (
            "want", "want ", "want  -", "want - ", " want -", "Want -", "wants -", "want a:2..1", "want - -", "unwant",
            "news", "news 0", "news 0 0", "news 0 0 ", "news 0  0 -", "news 0 0  -", "news 0 0 - -", "news 0 0 a:1..2",
            "news 0 0 b:1 a:1", "news ann 0 -", "here", "here ann", "here ann ", "here ann 0", "here ann 0-0",
            "here ann 0-1-0", "here ann 0-1 ", "here ann 0--1", "here ann -0-1", "here ann 0-1-", "here ann 0,1",
            "here Ann 0-1", "here abcdefghi 0-1", "here  ann 0-1", "here ann 0-1 2", "here ann -", "here 0-1", "kept",
            "kept ann", "kept ann 0-1", "kept ann 0-1 ", "kept ann 0-1  -", "kept ann 0-1 - ", "kept ann 0-1 - |",
            "kept ann 0-1 - | ", "kept ann 0-1 | 1 5 b:3", "kept ann 0-1 -| 1 5 b:3", "kept ann 0-1 - |1 5 b:3",
            "kept ann 0-1 - || 1 5 b:3", "kept ann 0-1 - | 1 5", "kept ann 0-1 - | 1 5 ", "kept ann 0-1 - | 1  5 b:3",
            "kept ann 0-1 - | 1 5 b:3 |", "kept ann 0-1 - | 1 5 b:3 | ", "kept ann 0-1 - | 1 5 b:3 |  1 5 b:3",
            "kept ann 0-1 - | 1 5 b:3  | 1 5 b:3", "kept ann 0-1 -  | 1 5 b:3", "kept ann 0-1 - 1 5 b:3",
            "kept ann 0-1 -,-", "kept ann 0-1 1:4,", "kept ann 0-1 ,1:4", "kept ann 0-1 1:4, 3:0", "kept ann 0-1 3:0,1:4",
            "kept ann 0-1 1:4,1:5", "kept ann 0-1 1:4 3:0", "kept ann 0-1 1", "kept ann 0-1 1:", "kept ann 0-1 :1",
            "kept ann 0-1 1:4:5", "kept ann 0-1 -,1:4", "kept Ann 0-1 -", "kept ann 0-1-0 -", "kept ann 0 -",
            "kept ann 0-1 - | 1 5 b:3..4", "kept ann 0-1 - | 1 5 c:1 b:3", "hear ann 0-1", "come ann 0", "step 0 1",
        ):
            check_refused(self, NoText, read_letter, text)

    def test_deeds(self):
        for text in (
            "come", "come ann", "come ann ", "come  ann 0", "come ann  0", "come ann 0 ", " come ann 0", "come ann 0 0",
            "Come ann 0", "come Ann 0", "come abcdefghi 0", "come 0 ann", "come ann -", "go", "go ", "go ann ", "go  ann",
            "go ann ann", "go Ann", "go 0", "want", "want ann", "want ann ", "want ann  -", "want ann - ", "want -",
            "want a:1..2", "want ann a:2..1", "want ann a:1", "want ann - -", "want ann b:1..1 a:1..1", "unwant ann",
            "unwant -", "tell", "tell 0", "tell 0 ", "tell 0  -", "tell 0 - ", "tell ann -", "tell 0 a:1..2", "tell -",
            "tell 0 b:1 a:1", "move ann", "move 0", "move ann 0 1", "grow", "grow ", "grow 0 ", "grow 0 0", "grow ann",
            "step", "step 0", "step 0 ", "step 0 1 ", "step 0  1", "step 0 1 2", "step 0-1", "step ann 0", "rest", "rest 0",
            "web 0", "hear 0 want -", "where ann", "news 0 0 -", "here ann 0-1",
        ):
            check_refused(self, NoText, read_deed, text)

    def test_one_sign_otherwise(self):
        """Each text with a sign more, one fewer, or another one: read as what it writes, or refused."""
        for texts, show, read, is_one in KINDS:
            for text in list(texts)[:11]:
                for at in range(len(text) + 1):
                    others = [text[:at] + sign + text[at:] for sign in SIGNS]
                    others += [text[:at] + sign + text[at + 1:] for sign in SIGNS + [""]]
                    for other in others:
                        self.check_one_writing(show, read, is_one, other)

    def check_one_writing(self, show, read, is_one, text):
        try:
            thing = read(text)
        except NoText:
            return
        self.assertTrue(is_one(thing))
        self.assertEqual(show(thing), text)


if __name__ == "__main__":
    unittest.main()

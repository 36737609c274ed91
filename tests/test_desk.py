"""Promises 41 and 42, of 2 and 3 what they say of the desk, and the same run done by all who can do it."""

import random
import unittest

from helper import GREAT, NAMES, check_refused, check_told, do_call, missing_by_words, nested, odd_things
from helper import rest_in_any_order, roads_view, some_call, some_web
from newsways.desk import Desk
from newsways.errors import Full, NoHand, NoLetter, NoPost, NoRoad, NoRow, NotWanted, NoWeb, OnTheWay, Twice
from newsways.roads import Roads
from newsways.runs import first_out_of_order, first_wrong, missing, roads_of
from newsways.texts import show_deed, show_letter, show_piece, show_wish
from newsways.webs import neighbours

THIRTY = [first + second for first in "abcde" for second in "uvwxyz"]
ASKING = ["lying", "hands", "missing"]


def said(desk, rows):
    """The last answer to these rows."""
    answers = [desk.say(row) for row in rows]
    return answers[-1]


def desk_view(desk, web):
    """All that a desk tells of a web of so many posts."""
    told = {row: desk.say(row) for row in ASKING}
    for hand in desk.say("hands").split(" ") if told["hands"] != "none" else []:
        told.update({f"{word} {hand}": desk.say(f"{word} {hand}") for word in ("where", "got", "wishes")})
    for p in range(len(web) + 1):
        for q in neighbours(web, p):
            told.update({f"{word} {p} {q}": desk.say(f"{word} {p} {q}") for word in ("known", "said", "first")})
    return told


def view_by_roads(roads, web):
    """The same, by what roads tell and by the words of the document."""
    def several(texts, between=" | "):
        return between.join(texts) or "none"

    told = {"lying": str(sum(len(letters) for p, q, letters in roads.lying())), "missing": "none"}
    told["hands"] = several(roads.hands(), " ")
    for hand in roads.hands():
        told[f"where {hand}"] = str(roads.where(hand)) + (" on the way" if roads.on_the_way(hand) else "")
        told[f"got {hand}"] = several([f"{t} {n} {show_piece(piece)}" for t, n, piece in roads.got(hand)])
        told[f"wishes {hand}"] = several([show_wish(wish) for wish in roads.wishes(hand)])
    first = {(p, q): show_letter(letters[0]) for p, q, letters in roads.lying()}
    for p in range(len(web) + 1):
        for q in neighbours(web, p):
            told[f"known {p} {q}"] = several([show_wish(wish) for wish in roads.known(p, q)])
            told[f"said {p} {q}"] = several([show_wish(wish) for wish in roads.said(p, q)])
            told[f"first {p} {q}"] = first.get((p, q), "none")
    return told


def a_desk():
    """On the tree 2 - 0 - 1 - 3: ann stays at 3, ben moves from 2 to 1."""
    desk = Desk()
    for row in ("web 0 0 1", "come ann 3", "want ann a:1..2", "come ben 2", "want ben -", "rest", "tell 0 a:1 b:-7",
                "tell 1 -", "rest", "move ben 1", "tell 2 b:1", "step 1 0"):
        desk.say(row)
    return desk


class Answers(unittest.TestCase):
    """41: each row and its answer."""

    def check(self, desk, *pairs):
        for row, due in pairs:
            told = desk.say(row)
            self.assertEqual((row, told), (row, due))
            self.assertIs(type(told), str)

    def test_at_first(self):
        self.check(Desk(), ("hands", "none"), ("lying", "0"), ("missing", "none"), ("rest", "0"), ("grow 0", "1"))
        self.check(Desk(), ("come ann 0", "ok"), ("where ann", "0"), ("got ann", "none"), ("wishes ann", "none"))
        check_refused(self, NoPost, Desk().say, "come ann 1")

    def test_a_day(self):
        self.check(
            Desk(),
            ("web 0 0 1", "ok"), ("come ben 2", "ok"), ("come ann 3", "ok"), ("hands", "ann ben"),
            ("want ann a:1..2 b:*..3", "ok"), ("want ann a:1..2", "ok"), ("want ann b:0..*", "ok"), ("want ben -", "ok"),
            ("wishes ann", "a:1..2 | a:1..2 b:*..3 | b:0..*"), ("wishes ben", "-"), ("lying", "5"),
            ("first 3 1", "want a:1..2 b:*..3"), ("first 1 3", "none"), ("first 2 0", "want -"), ("said 3 1", "a:1..2 | b:0..*"),
            ("known 1 3", "none"), ("step 3 1", "ok"), ("known 1 3", "a:1..2 b:*..3"), ("first 3 1", "want a:1..2"),
            ("lying", "5"), ("rest", "14"), ("lying", "0"), ("known 1 3", "a:1..2 | b:0..*"),
            ("known 2 0", "a:1..2 | b:0..*"), ("known 0 2", "-"), ("said 2 0", "-"), ("said 1 3", "-"),
            ("tell 0 a:1 c:-7", "0"), ("tell 0 -", "1"), ("tell 1 c:0", "0"), ("first 0 1", "news 0 0 a:1 c:-7"),
            ("rest", "6"), ("got ann", "0 0 a:1 c:-7"), ("got ben", "0 0 a:1 c:-7 | 0 1 - | 1 0 c:0"),
            ("move ann 2", "ok"), ("where ann", "2 on the way"), ("where ben", "2"),
            ("first 2 0", "here ann 2-0-1-3"), ("tell 3 a:2", "0"), ("step 2 0", "ok"), ("step 0 1", "ok"),
            ("step 1 3", "ok"), ("first 3 1", "news 3 0 a:2"), ("step 3 1", "ok"),
            ("first 3 1", "unwant a:1..2"), ("step 3 1", "ok"), ("step 3 1", "ok"),
            ("first 3 1", "kept ann 3-1-0-2 0:0 | 3 0 a:2"), ("rest", "9"), ("where ann", "2"),
            ("got ann", "0 0 a:1 c:-7 | 3 0 a:2"), ("unwant ann b:0..*", "ok"), ("go ben", "ok"), ("hands", "ann"),
            ("grow 3", "4"), ("known 4 3", "none"), ("missing", "none"), ("rest", "9"),
            ("known 4 3", "a:1..2"), ("missing", "none"),
        )

    def test_web_forgets_all_else(self):
        desk = a_desk()
        self.check(desk, ("web", "ok"), ("hands", "none"), ("lying", "0"), ("missing", "none"), ("come ann 0", "ok"),
                   ("got ann", "none"), ("wishes ann", "none"), ("tell 0 a:1", "0"), ("grow 0", "1"))
        self.check(desk, ("web 0 1", "ok"), ("hands", "none"), ("lying", "0"), ("known 1 2", "none"), ("tell 2 -", "0"))
        self.assertEqual(desk_view(desk, [0, 1]), desk_view(Desk(), []) | {
            f"{word} {p} {q}": "none" for word in ("known", "said", "first") for p, q in ((0, 1), (1, 0), (1, 2), (2, 1))})

    def test_missing_goes_by_the_web_with_which_the_run_began(self):
        desk = Desk()
        self.check(desk, ("come ann 0", "ok"), ("want ann -", "ok"), ("missing", "none"), ("grow 0", "1"), ("tell 1 -", "0"),
                   ("rest", "1"), ("missing", "none"), ("tell 1 -", "1"), ("rest", "1"), ("got ann", "1 1 -"),
                   ("missing", "none"))
        self.check(desk, ("web 0", "ok"), ("come ann 0", "ok"), ("want ann -", "ok"), ("tell 1 -", "0"), ("rest", "1"),
                   ("missing", "none"), ("tell 1 -", "1"), ("rest", "1"), ("got ann", "1 1 -"), ("missing", "none"))

    def test_webs(self):
        for web in ([], [0], [0] * 23, list(range(23)), [0, 0, 1, 3, 2]):
            desk = Desk()
            self.check(desk, (" ".join(["web"] + [str(post) for post in web]), "ok"))
            if len(web) < 23:
                self.check(desk, ("grow 0", str(len(web) + 1)))
            else:
                check_refused(self, Full, desk.say, "grow 0")

    def test_hands_with_the_names_of_words(self):
        desk = Desk()
        for name in ("missing", "web", "rest", "hands", "lying", "tell", "none", "ok", "where"):
            self.check(desk, (f"come {name} 0", "ok"), (f"where {name}", "0"), (f"want {name} a:1..2", "ok"),
                       (f"wishes {name}", "a:1..2"), (f"got {name}", "none"))
        self.check(desk, ("hands", "hands lying missing none ok rest tell web where"), ("go missing", "ok"))

    def test_missing_is_judged_by_the_rows(self):
        """Nothing is missing of a run, so its rows are changed here."""
        desk = Desk()
        self.check(desk, ("come ann 0", "ok"), ("want ann a:1..2", "ok"), ("tell 0 a:1", "0"), ("missing", "none"))
        for _ in range(2):
            desk.say("tell 0 a:2")
            desk.roads.run[-1][2].clear()
        self.assertNotEqual(desk.say("missing"), "none")
        self.check(desk, ("web", "ok"), ("missing", "none"))

    def test_great_numbers_in_wishes_and_pieces(self):
        desk = Desk()
        self.check(desk, ("come ann 0", "ok"), (f"want ann a:-{GREAT}..{GREAT}", "ok"), (f"tell 0 a:{GREAT}", "0"),
                   ("got ann", f"0 0 a:{GREAT}"), ("wishes ann", f"a:-{GREAT}..{GREAT}"))


class NoRows(unittest.TestCase):
    """42: what is no such row of words is refused with NoRow ahead of all else, and changes nothing."""

    def setUp(self):
        self.desk = a_desk()
        self.before = desk_view(self.desk, [0, 0, 1])

    def tearDown(self):
        self.assertEqual(desk_view(self.desk, [0, 0, 1]), self.before)
        for desk in (self.desk, other := a_desk()):
            desk.say("tell 3 a:1")
            desk.say("rest")
        self.assertEqual(desk_view(self.desk, [0, 0, 1]), desk_view(other, [0, 0, 1]))

    def check(self, *rows):
        for row in rows:
            check_refused(self, NoRow, self.desk.say, row)

    def test_anything(self):
        self.check(*odd_things(), (), [], 0, nested(20), ["hands"], ("hands",), b"hands", ("go", "ann"), "x" * 2000)

    def test_other_words(self):
        self.check("", " ", "-", "none", "ok", "hand", "Hands", "HANDS", "hands\n", "\thands", "help", "leave ann", "expect ann",
                   "hear 0 1", "told 0", "marks ann", "rows", "on_the_way ann", "staying 0", "deed", "exit")

    def test_blanks(self):
        for row in ("web", "web 0 0 1", "come dan 0", "go ann", "want ann -", "want ann a:1..2 b:1..2", "unwant ann a:1..2",
                    "tell 0 -", "tell 0 a:1 b:1", "move ann 0", "grow 0", "step 0 1", "rest", "where ann", "got ann",
                    "wishes ann", "known 0 1", "said 0 1", "lying", "first 0 1", "hands", "missing"):
            self.check(" " + row, row + " ", row.replace(" ", "  ", 1) if " " in row else row + "  ",
                       row + "\n", row + "\t", "\n" + row, row.replace(" ", "\t") if " " in row else row + "\t")
            self.check("  ".join(row.rsplit(" ", 1)) if " " in row else " " + row)

    def test_too_few_and_too_many_words(self):
        self.check("come", "come dan", "come dan 0 0", "go", "go ann ben", "want", "want ann", "unwant", "unwant ann", "tell",
                   "tell 0", "move", "move ann", "move ann 0 0", "grow", "grow 0 0", "step", "step 0", "step 0 1 2", "rest 0",
                   "rest 5", "rest None", "where", "where ann ben", "got", "got ann 0", "wishes", "wishes ann -", "known",
                   "known 0", "known 0 1 2", "said", "said 0", "said 0 1 0", "lying 0", "lying 0 1", "first", "first 0",
                   "first 0 1 0", "hands ann", "hands 0", "missing ann", "missing none")

    def test_names(self):
        for name in ("abcdefghi", "Ann", "ann1", "1", "0", "-", "*", "an-n", "a_b", "x" * 20, "\u00e9", "ann,ben", "~"):
            self.check(f"come {name} 0", f"go {name}", f"want {name} -", f"unwant {name} -", f"move {name} 0",
                       f"where {name}", f"got {name}", f"wishes {name}")

    def test_numbers(self):
        for number in ("1000000000", "9999999999", "1" * 15, "00", "01", "007", "0000000001", "-1", "-0", "+1", "1.0", "one",
                       "a", "*", "-", "1,2", "\u0661", "\uff11", "0x1", "1_0", "1e3"):
            self.check(f"come dan {number}", f"tell {number} -", f"move ann {number}", f"grow {number}",
                       f"step {number} 0", f"step 0 {number}", f"known {number} 0", f"known 0 {number}",
                       f"said {number} 0", f"said 0 {number}", f"first {number} 0", f"first 0 {number}",
                       f"web {number}", f"web 0 {number}", f"web 0 {number} 0")

    def test_wishes_and_pieces(self):
        for text in ("", "a", "a:1", "a:2..1", "a:1..02", "a:1..-0", "a:+1..2", "A:1..2", "b:1..1 a:1..1", "a:1..2 a:1..2",
                     "a:1..1000000000000000", "a:1..2 -", "- -", "a:1..2  b:1..2", "a:1..2 | b:1..2", "a:\u0661..2",
                     "abcdefghi:1..2", "none", "()"):
            self.check(f"want ann {text}", f"unwant ann {text}", f"want dan {text}")
        for text in ("", "a", "a:1..2", "a:01", "a:-0", "a:+1", "A:1", "b:1 a:1", "a:1 a:1", "a:1000000000000000", "a:*",
                     "a:1 -", "- -", "a:1  b:1", "a:1 | b:1", "a:\u0661", "abcdefghi:1", "none", "()"):
            self.check(f"tell 0 {text}", f"tell 9 {text}")

    def test_ahead_of_all_else(self):
        # A web that is none, a hand that is not there, one that is on the way: none of it is looked at.
        self.check("web 5 01", "web 5 -1", "web 1 x", "go dan ", "want dan a", "want ben a:2..1", "tell 99 a", "move ben 01",
                   "step 9 x", "come ann 9 9")


class Refused(unittest.TestCase):
    """42: then NoWeb, then as the roads refuse; nothing changes."""

    def setUp(self):
        self.desk = a_desk()
        self.before = desk_view(self.desk, [0, 0, 1])

    def tearDown(self):
        self.assertEqual(desk_view(self.desk, [0, 0, 1]), self.before)

    def check(self, error, *rows):
        for row in rows:
            check_refused(self, error, self.desk.say, row)

    def test_no_web(self):
        self.check(NoWeb, "web 1", "web 0 2", "web 0 0 3", "web 999999999", "web 0 999999999")
        self.check(NoWeb, "web" + " 0" * 24, "web" + " 0" * 200, "web" + " 0" * 22 + " 23")

    def test_as_the_roads_refuse(self):
        self.check(Twice, "come ann 0", "come ben 9", "want ann a:1..2")
        self.check(NoPost, "come dan 4", "come dan 999999999", "tell 4 -", "move ann 4", "grow 4")
        self.check(NoHand, "go dan", "want dan -", "unwant dan -", "move dan 9", "where dan", "got dan", "wishes dan")
        self.check(OnTheWay, "go ben", "want ben -", "unwant ben a:1..2", "move ben 9", "move ben 2")
        self.check(NotWanted, "unwant ann a:1..3", "unwant ann -")
        self.check(NoRoad, "step 0 0", "step 0 3", "step 9 9", "known 0 3", "known 9 0", "said 0 0", "said 0 999999999",
                   "first 0 3", "first 1 1", "first 9 1", "first 999999999 0")
        lying = [pair for pair in ("0 1", "1 0", "0 2", "2 0", "1 3", "3 1") if self.desk.say(f"first {pair}") == "none"]
        self.assertTrue(lying)
        self.check(NoLetter, *[f"step {pair}" for pair in lying])

    def test_the_numbers_of_nine_figures_are_such(self):
        self.check(NoPost, "tell 999999999 -", "grow 100000000")


class AsFull(unittest.TestCase):
    def test_full(self):
        desk = Desk()
        said(desk, ["web" + " 0" * 22] + [f"come {hand} {at % 23}" for at, hand in enumerate(THIRTY)])
        for row in ("come zed 0", "come zed 22"):
            check_refused(self, Full, desk.say, row)
        check_refused(self, NoPost, desk.say, "come zed 23")
        self.assertEqual(said(desk, ["grow 22"]), "23")
        check_refused(self, Full, desk.say, "grow 23")
        check_refused(self, NoPost, desk.say, "grow 24")
        said(desk, [f"want au a:{low}..20" for low in range(10)])
        check_refused(self, Full, desk.say, "want au -")
        check_refused(self, Twice, desk.say, "want au a:3..20")
        check_refused(self, NoRow, desk.say, "want au")


class LongDays(unittest.TestCase):
    """41: missing stays none, over long days of rows."""

    def test_many_days(self):
        for seed in range(10):
            chance = random.Random(seed)
            desk, roads = Desk(), Roads(web := some_web(chance))
            desk.say(" ".join(["web"] + [str(post) for post in web]))
            for _ in range(250):
                call = some_call(chance, roads)
                told = do_call(roads, call)
                row = show_deed(call)
                if isinstance(told, type):
                    check_refused(self, told, desk.say, row)
                else:
                    self.assertEqual(desk.say(row), "ok" if told is None else str(told))
                if chance.random() < 0.05:
                    self.assertEqual(desk.say("missing"), "none")
            self.assertEqual(desk_view(desk, roads.web()), view_by_roads(roads, roads.web()))
            self.assertEqual(desk.say("rest"), str(roads.rest()))
            self.assertEqual(desk_view(desk, roads.web()), view_by_roads(roads, roads.web()))
            self.assertEqual(missing_by_words(web, roads.rows()), [])

    def test_thirty_hands_ten_wishes_twenty_four_posts(self):
        chance = random.Random(7)
        desk = Desk()
        web = [chance.randrange(max(0, at - 3), at + 1) for at in range(23)]
        said(desk, [" ".join(["web"] + [str(post) for post in web])])
        said(desk, [f"come {hand} {chance.randrange(24)}" for hand in THIRTY])
        for hand in THIRTY:
            for wish in range(10):
                low = chance.randrange(60)
                field, high = chance.choice("ab"), low + chance.randrange(3, 12)
                desk.say(f"want {hand} {field}:{low}..{high} c:{wish}..*")
        desk.say("rest")
        for _ in range(60):
            desk.say(f"tell {chance.randrange(24)} a:{chance.randrange(70)} b:{chance.randrange(70)} c:{chance.randrange(12)}")
            hand = chance.choice(THIRTY)
            if "way" not in desk.say(f"where {hand}"):
                desk.say(f"move {hand} {chance.randrange(24)}")
            lying = [(p, q) for p in range(24) for q in neighbours(web, p) if desk.say(f"first {p} {q}") != "none"]
            for p, q in lying:
                desk.say(f"step {p} {q}")
        self.assertEqual(desk.say("missing"), "none")
        desk.say("rest")
        self.assertEqual((desk.say("missing"), desk.say("lying")), ("none", "0"))
        self.assertTrue(any(desk.say(f"got {hand}") != "none" for hand in THIRTY))
        self.assertFalse(any("way" in desk.say(f"where {hand}") for hand in THIRTY))


class TheSame(unittest.TestCase):
    """The same run done by Roads, by roads_of, and by a Desk in texts tells the same."""

    def test_runs(self):
        for seed in range(15):
            chance = random.Random(100 + seed)
            web = some_web(chance)
            roads = Roads(web)
            for _ in range(120):
                do_call(roads, some_call(chance, roads))
            rest_in_any_order(chance, roads)
            do_call(roads, some_call(chance, roads))
            deeds = [row[0] for row in roads.rows()]
            again, desk = roads_of(web, deeds), Desk()
            said(desk, [" ".join(["web"] + [str(post) for post in web])] + [show_deed(deed) for deed in deeds])
            self.assertEqual(roads_view(again), roads_view(roads))
            self.assertEqual(desk_view(desk, roads.web()), view_by_roads(roads, roads.web()))
            self.assertIsNone(first_wrong(web, roads.rows()))
            self.assertIsNone(first_out_of_order(roads.rows()))
            check_told(self, [], missing, web, roads.rows())

    def test_two_never_touch_one_another(self):
        desks, roads = [Desk(), Desk()], [Roads([0, 0]), Roads([0, 0])]
        for desk in desks:
            desk.say("web 0 0")
        chances = [random.Random(1), random.Random(2)]
        for _ in range(150):
            for desk, own, chance in zip(desks, roads, chances):
                call = some_call(chance, own, NAMES)
                if not isinstance(do_call(own, call), type):
                    desk.say(show_deed(call))
        for desk, own in zip(desks, roads):
            alone = roads_of([0, 0], [row[0] for row in own.rows()])
            self.assertEqual(roads_view(alone), roads_view(own))
            self.assertEqual(desk_view(desk, own.web()), view_by_roads(own, own.web()))
        desks[0].say("web")
        self.assertEqual(desk_view(desks[1], roads[1].web()), view_by_roads(roads[1], roads[1].web()))


if __name__ == "__main__":
    unittest.main()

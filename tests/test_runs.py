"""Promises 35 to 38, and of 2, 3 and 4 what they say of runs."""

import random
import unittest

from helper import GREAT, GREATER, GREATEST, NO_NAMES, NO_NUMBERS, NO_PIECES, NO_WEBS, NO_WISHES, Other
from helper import check_own, check_refused, check_told, lists_within, missing_by_words, nested, odd_things
from helper import out_of_order_by_words, rest_in_any_order, roads_view, same, some_run, some_web, still_moments
from newsways.errors import NewsError, NoWeb, Stuck
from newsways.roads import Roads
from newsways.runs import first_out_of_order, first_wrong, is_deed, missing, roads_of

A, B, LOW = (("a", 1, 2),), (("b", 1, 2),), (("a", 0, 5),)
ONE, TWO, BEE = (("a", 1),), (("a", 2),), (("b", 1),)
DEEDS = [
    ("come", "ann", 3), ("go", "ann"), ("want", "ann", A), ("unwant", "ann", A), ("tell", 3, ONE), ("move", "ann", 3),
    ("grow", 3), ("step", 3, 0),
]
HANDS = {"come": 1, "go": 1, "want": 1, "unwant": 1, "move": 1}
POSTS = {"come": 2, "tell": 1, "move": 2, "grow": 1}
NO_DEEDS = odd_things() + [
    (), [], "come", "go ann", 0, GREATEST, nested(20), ("come",), ("come", "ann"), ("come", "ann", None), ("go",),
    ("go", "ann", 0), ("go", "Ann"), ["go", "ann"], ("rest",), ("rest", 0), ("rest", None), ("leave", "ann"), ("web",),
    ("Go", "ann"), ("go ", "ann"), ("hear", 0, ("want", A)), ("news", 0, 0, ONE), ("want", A), ("unwant", A),
    ("tell", 0, A), ("want", "ann", ONE), ("want", "ann", list(A)), ("want", 0, A), ("tell", "ann", ONE),
    ("move", 0, "ann"), ("grow", "ann"), ("grow",), ("grow", 0, 0), ("step", 0), ("step", 0, 1, 2), ("step", 0, True),
    ("step", False, 1), ("step", -1, 0), ("grow", -1), ("grow", True), ("come", "abcdefghi", 0), (None, "ann"),
    (("go",), "ann"), (["go"], "ann"), ({}, "ann"), (0, "ann"), (b"go", "ann"), (Other(), "ann"),
]


def with_place(thing, at, part):
    return thing[:at] + (part,) + thing[at + 1:]


def a_run():
    """The deeds of a small run, with steps."""
    roads = Roads([0, 0])
    for hand, post, wish in (("ann", 1, A), ("ben", 2, LOW)):
        roads.come(hand, post)
        roads.want(hand, wish)
    roads.rest()
    roads.tell(0, ONE)
    roads.rest()
    roads.move("ann", 2)
    roads.tell(1, TWO)
    roads.tell(2, ONE)
    roads.rest()
    roads.grow(1)
    roads.tell(3, TWO)
    roads.rest()
    roads.unwant("ben", LOW)
    roads.go("ann")
    roads.rest()
    return roads


class IsDeed(unittest.TestCase):
    """35"""

    def check_places(self, places, things, due):
        for deed in DEEDS:
            for at in [places[deed[0]]] if deed[0] in places else []:
                for thing in things:
                    check_told(self, due, is_deed, with_place(deed, at, thing))

    def test_deeds(self):
        for deed in DEEDS:
            check_told(self, True, is_deed, deed)

    def test_hands(self):
        self.check_places(HANDS, ["a", "abcdefgh", "z", "come"], True)
        self.check_places(HANDS, NO_NAMES + ["abcdefghi", 0], False)

    def test_posts(self):
        for places in (POSTS, {"step": 1}, {"step": 2}):
            self.check_places(places, [0, 1, 24, GREAT, GREATER, GREATEST], True)
            self.check_places(places, NO_NUMBERS + [True, False, -1], False)
        check_told(self, True, is_deed, ("step", 2, 2))

    def test_wishes_and_pieces(self):
        self.check_places({"want": 2, "unwant": 2}, [(), B, (("a", None, GREATER),)], True)
        self.check_places({"want": 2, "unwant": 2}, NO_WISHES + [ONE, [A], list(A)], False)
        self.check_places({"tell": 2}, [(), BEE, (("a", GREATEST),)], True)
        self.check_places({"tell": 2}, NO_PIECES + [A, [ONE], list(ONE)], False)

    def test_another_word(self):
        words = ["", "Come", "come ", " come", "comes", "rest", "web", "hear", "news", "leave", "expect", None, 0, True]
        for deed in DEEDS:
            for word in words + odd_things():
                check_told(self, False, is_deed, with_place(deed, 0, word))

    def test_the_word_of_another_deed(self):
        kinds = {"come": "hp", "go": "h", "want": "hw", "unwant": "hw", "tell": "pn", "move": "hp", "grow": "p"}
        for deed in DEEDS:
            for word, kind in kinds.items():
                check_told(self, kinds.get(deed[0], "pp") == kind, is_deed, with_place(deed, 0, word))

    def test_a_part_more_or_fewer_and_no_tuple(self):
        for deed in DEEDS:
            for many in range(len(deed)):
                check_told(self, False, is_deed, deed[:many])
                check_told(self, False, is_deed, deed[many + 1:])
            for thing in (None, 0, (), "ann", A, deed[-1]):
                check_told(self, False, is_deed, deed + (thing,))
            for thing in (list(deed), (deed,), [deed], {deed: 1}, str(deed)):
                check_told(self, False, is_deed, thing)

    def test_anything_else(self):
        for thing in NO_DEEDS:
            check_told(self, False, is_deed, thing)


class RoadsOf(unittest.TestCase):
    """36"""

    def check_stuck(self, place, word, web, deeds):
        handed = list(deeds)
        with self.assertRaises(Stuck) as caught:
            roads_of(web, deeds)
        self.assertIs(type(caught.exception), Stuck)
        self.assertIsInstance(caught.exception, NewsError)
        self.assertTrue(same(caught.exception.place, place), (caught.exception.place, place))
        self.assertEqual(caught.exception.word, word)
        self.assertEqual(str(caught.exception), f"{place} {word}")
        self.assertTrue(same(deeds, handed))

    def test_the_same_rows(self):
        for seed in range(20):
            chance = random.Random(seed)
            web = some_web(chance)
            roads = Roads(web)
            deeds = some_run(chance, roads, 80)
            told = roads_of(web, deeds)
            self.assertIs(type(told), Roads)
            self.assertEqual(roads_view(told), roads_view(roads))
            self.assertEqual([row[0] for row in told.rows()], deeds)

    def test_none(self):
        for web in ([], [0], [0, 1, 2]):
            self.assertEqual(roads_view(roads_of(web, [])), roads_view(Roads(web)))

    def test_what_is_handed_in_is_not_kept(self):
        web, deeds = [0], [("come", "ann", 1), ("grow", 1)]
        roads = roads_of(web, deeds)
        self.assertEqual((web, deeds), ([0], [("come", "ann", 1), ("grow", 1)]))
        web.append(0)
        deeds.clear()
        check_told(self, [0, 1], roads.web)
        self.assertEqual(len(roads.rows()), 2)

    def test_no_web_goes_ahead_of_all_else(self):
        for thing in NO_WEBS:
            for deeds in ([], DEEDS, [None], [("go", "ann")]):
                check_refused(self, NoWeb, roads_of, thing, deeds)

    def test_no_deed(self):
        for thing in NO_DEEDS:
            self.check_stuck(0, "NoDeed", [0], [thing])
            self.check_stuck(2, "NoDeed", [0], [("come", "ann", 0), ("grow", 1), thing, None])

    def test_each_refusal(self):
        start = [("come", "ann", 0), ("want", "ann", A)]
        for word, deeds in (
            ("Twice", [("come", "ann", 1)]), ("Twice", [("come", "ann", 9)]), ("NoPost", [("come", "ben", 2)]),
            ("NoHand", [("go", "ben")]), ("OnTheWay", [("move", "ann", 1), ("go", "ann")]),
            ("NoHand", [("want", "ben", A)]), ("OnTheWay", [("move", "ann", 1), ("want", "ann", A)]),
            ("Twice", [("want", "ann", A)]), ("NoHand", [("unwant", "ben", A)]), ("NotWanted", [("unwant", "ann", B)]),
            ("OnTheWay", [("move", "ann", 1), ("unwant", "ann", B)]), ("NoPost", [("tell", 2, ONE)]),
            ("NoHand", [("move", "ben", 1)]), ("OnTheWay", [("move", "ann", 1), ("move", "ann", 1)]),
            ("NoPost", [("move", "ann", 2)]), ("NoPost", [("grow", 2)]), ("NoRoad", [("step", 0, 2)]),
            ("NoRoad", [("step", 5, 6)]), ("NoRoad", [("step", 1, 1)]), ("NoLetter", [("step", 1, 0)]),
            ("NoLetter", [("step", 0, 1), ("step", 0, 1)]),
        ):
            self.check_stuck(len(start + deeds) - 1, word, [0], start + deeds)
            self.check_stuck(len(start + deeds) - 1, word, [0], start + deeds + [None, ("come", "ann", 0)])
            self.check_stuck(0, "NoDeed", [0], [("tell", 0)] + start + deeds)

    def test_full(self):
        names = [first + second for first in "abcde" for second in "uvwxyz"]
        come = [("come", name, 0) for name in names]
        self.check_stuck(30, "Full", [0], come + [("come", "zed", 1)])
        self.check_stuck(30, "NoPost", [0], come + [("come", "zed", 2)])
        want = [("come", "ann", 0)] + [("want", "ann", (("a", low, 9),)) for low in range(10)]
        self.check_stuck(11, "Full", [0], want + [("want", "ann", ())])
        self.check_stuck(1, "Full", [0] * 22, [("grow", 0), ("grow", 23)])
        self.check_stuck(1, "NoPost", [0] * 22, [("grow", 0), ("grow", 24)])

    def test_two_thousand_deeds(self):
        deeds = [("come", "ann", 0), ("want", "ann", ())] + [("tell", 0, ONE)] * 1998
        self.assertEqual(len(roads_of([], deeds).got("ann")), 1998)
        self.check_stuck(1999, "NoHand", [], deeds[:-1] + [("go", "ben")])


class FirstWrong(unittest.TestCase):
    """37"""

    def check(self, due, web, rows):
        check_told(self, due, first_wrong, web, rows)

    def test_right_runs(self):
        self.check(None, [], [])
        self.check(None, [0, 0], a_run().rows())
        for seed in range(20):
            chance = random.Random(seed)
            web = some_web(chance)
            roads = Roads(web)
            some_run(chance, roads, 60)
            self.check(None, web, roads.rows())

    def test_no_web(self):
        for thing in NO_WEBS:
            for rows in ([], a_run().rows(), [(None, [], [])]):
                check_refused(self, NoWeb, first_wrong, thing, rows)

    def test_no_deed(self):
        rows = a_run().rows()
        for at in range(len(rows)):
            for thing in (None, [], ("rest",), list(rows[at][0]), rows[at][0] + (0,), ("step", 0, True)):
                self.check(at, [0, 0], rows[:at] + [(thing,) + rows[at][1:]] + rows[at + 1:])
        for thing in NO_DEEDS:
            self.check(0, [0, 0], [(thing, [], [])] + rows)

    def test_refused(self):
        rows = a_run().rows()
        for at in range(len(rows)):
            for deed in (("go", "zed"), ("come", "zed", 9), ("step", 1, 2), ("tell", 9, ONE), ("unwant", "zed", A)):
                self.check(at, [0, 0], rows[:at] + [(deed, [], [])] + rows[at:])
        self.check(4, [0, 0], rows[:4] + [rows[2]] + rows[4:])
        # A row less makes a later one wrong.
        for at in range(len(rows) - 1):
            self.assertLessEqual(at, first_wrong([0, 0], rows[:at] + rows[at + 1:]) or len(rows))

    def test_letters_and_given(self):
        rows = a_run().rows()
        changed = 0
        for at, (deed, letters, given) in enumerate(rows):
            others = [(letters + [(0, 1, ("want", B))], given), (letters, given + [("ann", 0, 9, ONE)])]
            others += [(letters + letters[-1:], given)] * bool(letters) + [(letters[:-1], given)] * bool(letters)
            others += [(letters[1:], given)] * bool(letters) + [(letters, given[1:])] * bool(given)
            others += [(letters, given[:-1])] * bool(given) + [(letters, given + given)] * bool(given)
            others += [(letters[::-1], given)] * (letters != letters[::-1])
            others += [(letters, given[::-1])] * (given != given[::-1])
            if letters:
                p, q, letter = letters[0]
                for one in ((q, p, letter), (p, q + 5, letter), (p, q, letter[:-1] + (None,)), (p, q, list(letter))):
                    others.append(([one] + letters[1:], given))
            if given:
                for place, thing in enumerate(("zed", 9, 9, ())):
                    others.append((letters, [with_place(given[0], place, thing)] + given[1:]))
            for other in others:
                self.check(at, [0, 0], rows[:at] + [(deed,) + other] + rows[at + 1:])
                changed += 1
        self.assertGreater(changed, 100)

    def test_letters_for_given(self):
        rows = a_run().rows()
        at = [at for at, row in enumerate(rows) if row[2]][0]
        self.check(at, [0, 0], rows[:at] + [(rows[at][0], rows[at][2], rows[at][1])] + rows[at + 1:])

    def test_another_web(self):
        self.assertIsNotNone(first_wrong([0, 1], a_run().rows()))
        self.check(0, [], a_run().rows())

    def test_the_first_of_several(self):
        rows = a_run().rows()
        wrong = [(row[0], row[1], [("ann", 7, 7, ONE)]) for row in rows]
        for at in range(len(rows)):
            self.check(at, [0, 0], rows[:at] + wrong[at:])


class FirstOutOfOrder(unittest.TestCase):
    """38, by 4 (a)"""

    def rows(self, *given):
        """Rows of tellings, each with what is given, told as tuples of words such as "ann 0 3"."""
        told = []
        for texts in given:
            ones = [(text.split()[0], int(text.split()[1]), int(text.split()[2]), ONE) for text in texts]
            told.append((("tell", 0, ONE), [], ones))
        return told

    def check(self, due, rows):
        check_told(self, due, first_out_of_order, rows)
        self.assertEqual(out_of_order_by_words(rows), due)

    def test_right_runs(self):
        self.check(None, [])
        self.check(None, a_run().rows())
        for seed in range(20):
            chance = random.Random(seed)
            roads = Roads(some_web(chance))
            some_run(chance, roads, 80)
            self.check(None, roads.rows())

    def test_twice_and_out_of_order(self):
        self.check(None, self.rows(["ann 0 3"], ["ann 0 4"], ["ann 0 9"]))
        self.check(1, self.rows(["ann 0 3"], ["ann 0 3"]))
        self.check(2, self.rows(["ann 0 3"], [], ["ann 0 2"]))
        self.check(3, self.rows(["ann 0 3"], ["ann 0 5"], [], ["ann 0 4"], ["ann 0 3"]))
        self.check(1, self.rows(["ann 0 0"], ["ann 0 0"]))
        self.check(1, self.rows(["ann 0 3"], ["ben 0 3", "ann 1 0", "ann 0 3"]))

    def test_in_the_same_row(self):
        self.check(0, self.rows(["ann 0 3", "ann 0 3"]))
        self.check(0, self.rows(["ann 0 3", "ann 0 2"]))
        self.check(None, self.rows(["ann 0 2", "ann 0 3"]))
        self.check(1, self.rows([], ["ben 0 3", "ann 0 3", "ben 0 3"]))

    def test_other_hands_and_other_tellers(self):
        self.check(None, self.rows(["ann 0 3", "ben 0 3"], ["ann 1 3", "ben 1 2"], ["ann 2 0"], ["ben 0 4"]))

    def test_another_piece_of_the_same_number(self):
        rows = [(("tell", 0, ONE), [], [("ann", 0, 0, ONE)]), (("tell", 0, ONE), [], [("ann", 0, 0, TWO)])]
        self.check(1, rows)

    def test_behind_a_go_and_a_come(self):
        one = self.rows(["ann 0 3"])
        go, come, other = (("go", "ann"), [], []), (("come", "ann", 0), [], []), (("come", "ben", 0), [], [])
        self.check(None, one + [go, come] + one)
        self.check(2, one + [go] + one)
        self.check(3, one + [go, other] + one)
        self.check(None, [come] + one + [go, come] + one + [go, come] + one)
        self.check(7, [come] + one + [go, come] + one + [go] + [other] + one)
        # A move is no coming.
        self.check(2, one + [(("move", "ann", 1), [], [])] + one)

    def test_a_comes_own_row_stands_behind_the_coming(self):
        given = [("ann", 0, 3, ONE)]
        come = (("come", "ann", 0), [], given)
        one = self.rows(["ann 0 3"])
        self.check(None, one + [come])
        self.check(1, [come] + one)
        self.check(0, [(("come", "ann", 0), [], given * 2)])
        self.check(None, [come, come])
        self.check(1, one + [(("come", "ben", 0), [], given)])
        # A go's own row changes nothing in it.
        self.check(1, one + [(("go", "ann"), [], given)])

    def test_changed_runs(self):
        found = 0
        for seed in range(60):
            chance = random.Random(seed)
            roads = Roads(some_web(chance))
            some_run(chance, roads, 60)
            rows = changed_rows(chance, roads.rows())
            due = out_of_order_by_words(rows)
            self.check(due, rows)
            found += due is not None
        self.assertGreater(found, 20)


def changed_rows(chance, rows):
    """Rows whose letters and given were changed within their forms."""
    rows = [(deed, list(letters), list(given)) for deed, letters, given in rows]
    letters = [one for row in rows for one in row[1]] or [(0, 1, ("want", A))]
    given = [one for row in rows for one in row[2]] or [("ann", 0, 0, ONE)]
    for _ in range(chance.randrange(4)):
        row = chance.choice(rows or [((), [], [])])
        if row[2] and chance.random() < 0.5:
            row[2].pop(chance.randrange(len(row[2])))
        else:
            row[2].append(chance.choice(given))
    for _ in range(chance.choice([0, 0, 1, 2])):
        row = chance.choice(rows or [((), [], [])])
        if row[1] and chance.random() < 0.6:
            row[1].pop()
        else:
            row[1].append(chance.choice(letters))
    return rows


class Missing(unittest.TestCase):
    """38, by 4 (b)"""

    def check(self, due, web, rows):
        check_told(self, due, missing, web, rows)
        self.assertEqual(missing_by_words(web, rows), due)

    def rows(self, *deeds):
        """Rows of deeds without letters and given, so that each moment is still, but behind those with letters.

        A number instead of a deed: so many letters are put out by the deed ahead of it.
        """
        told = []
        for deed in deeds:
            if isinstance(deed, int):
                told[-1][1].extend([(0, 1, ("want", ()))] * deed)
            else:
                told.append((deed, [], []))
        return told

    def test_right_runs(self):
        self.check([], [], [])
        self.check([], [0, 0], a_run().rows())
        for seed in range(20):
            chance = random.Random(seed)
            web = some_web(chance)
            roads = Roads(web)
            some_run(chance, roads, 80)
            self.check([], web, roads.rows())
            rest_in_any_order(chance, roads)
            self.check([], web, roads.rows())

    def test_no_web(self):
        for thing in NO_WEBS:
            for rows in ([], a_run().rows()):
                check_refused(self, NoWeb, missing, thing, rows)

    def test_a_piece_taken_out(self):
        come, want, tell = ("come", "ann", 0), ("want", "ann", A), ("tell", 0, ONE)
        rows = self.rows(come, want, tell)
        self.check([("ann", 0, 0)], [], rows)
        rows[2][2].append(("ann", 0, 0, ONE))
        self.check([], [], rows)
        # The piece is known by teller and number; that of another one does not count.
        for other in (("ben", 0, 0, ONE), ("ann", 0, 1, ONE), ("ann", 1, 0, ONE)):
            rows[2][2][:] = [other]
            self.check([("ann", 0, 0)], [], rows)
        rows[2][2][:] = [("ann", 0, 0, TWO)]
        self.check([], [], rows)

    def test_not_wanted(self):
        come, want = ("come", "ann", 0), ("want", "ann", A)
        self.check([], [], self.rows(come, want, ("tell", 0, BEE), ("tell", 0, (("a", 3),)), ("tell", 0, ())))
        self.check([], [], self.rows(come, ("tell", 0, ONE), want))
        self.check([("ann", 0, 1)], [], self.rows(come, ("tell", 0, ONE), want, ("tell", 0, ONE)))

    def test_in_the_order_of_the_tellings_then_of_the_names(self):
        rows = self.rows(
            ("come", "cat", 0), ("come", "ann", 0), ("come", "ben", 1), ("want", "ben", LOW), ("want", "cat", A),
            ("want", "ann", ()), ("tell", 1, ONE), ("tell", 0, (("a", 4),)), ("tell", 1, ()), ("tell", 0, ONE),
        )
        due = [("ann", 1, 0), ("ben", 1, 0), ("cat", 1, 0), ("ann", 0, 0), ("ben", 0, 0), ("ann", 1, 1), ("ann", 0, 1),
               ("ben", 0, 1), ("cat", 0, 1)]
        self.check(due, [0], rows)
        # Also where several are due at one still moment.
        rows = rows[:6] + [(rows[6][0], [(0, 1, ("want", ()))], [])] + rows[7:] + [(("step", 0, 1), [], [])]
        self.check(due, [0], rows)

    def test_there_must_be_a_still_moment_behind_the_telling(self):
        come, want, tell, step = ("come", "ann", 0), ("want", "ann", A), ("tell", 0, ONE), ("step", 0, 1)
        self.check([], [0], self.rows(come, want, tell, 1))
        self.check([("ann", 0, 0)], [0], self.rows(come, want, tell, 1, step))
        self.check([], [0], self.rows(come, want, tell, 2, step))
        self.check([("ann", 0, 0)], [0], self.rows(come, want, tell, 2, step, step))
        # More steps than letters: just as many make a moment still.
        self.check([], [0], self.rows(come, want, step, tell))
        self.check([("ann", 0, 0)], [0], self.rows(come, want, step, tell, 1))

    def test_given_up_to_that_moment(self):
        come, want, tell, step = ("come", "ann", 0), ("want", "ann", A), ("tell", 0, ONE), ("step", 0, 1)
        given = ("ann", 0, 0, ONE)
        for at, due in ((1, True), (2, False), (3, False), (4, False), (5, True)):
            rows = self.rows(come, want, tell, 2, step, step, ("grow", 0))
            rows[at][2].append(given)
            self.check([("ann", 0, 0)] if due else [], [0], rows)

    def test_wanted_at_a_still_moment_ahead_of_the_telling(self):
        come, want, tell, step = ("come", "ann", 0), ("want", "ann", A), ("tell", 0, ONE), ("step", 0, 1)
        # Straight ahead of it.
        self.check([("ann", 0, 0)], [0], self.rows(come, want, tell))
        self.check([("ann", 0, 0)], [0], self.rows(come, want, 1, step, tell))
        # At none.
        self.check([], [0], self.rows(come, want, 1, tell, step))
        self.check([], [0], self.rows(come, 1, want, tell, step))
        self.check([("ann", 0, 1)], [0], self.rows(come, want, 1, tell, step, tell))
        # Long ago, and none since.
        grow = ("grow", 0)
        self.check([("ann", 0, 0)], [0], self.rows(come, want, grow, 1, grow, grow, tell, grow, step))

    def test_the_moment_ahead_of_the_first_row_is_still(self):
        self.assertEqual(still_moments([]), [True])
        self.check([], [], self.rows(("tell", 0, ONE)))
        # Nobody is there at it, so it matters only for what comes of the count.
        self.check([], [0], self.rows(("come", "ann", 0), 1, ("want", "ann", A), ("tell", 0, ONE), ("step", 0, 1)))

    def test_up_to_that_moment_it_has_not_gone_or_stopped_wanting_this_wish(self):
        start = [("come", "ann", 0), ("want", "ann", A)]
        tell, step, go, stop = ("tell", 0, ONE), ("step", 0, 1), ("go", "ann"), ("unwant", "ann", A)
        self.check([], [0], self.rows(*start, tell, 1, go, step))
        self.check([], [0], self.rows(*start, tell, 1, stop, step))
        self.check([("ann", 0, 0)], [0], self.rows(*start, tell, 1, step, go))
        self.check([("ann", 0, 0)], [0], self.rows(*start, tell, 1, step, stop))
        self.check([], [0], self.rows(*start, tell, 1, go, *start, step))
        self.check([], [0], self.rows(*start, tell, 1, stop, start[1], step))
        self.check([], [0], self.rows(*start, go, *start[:1], tell))
        self.check([], [0], self.rows(*start, ("grow", 0), 1, stop, start[1], tell, step))
        self.check([], [0], self.rows(*start, ("grow", 0), 1, go, *start, tell, step))
        # Also where a letter that is heard puts out another one.
        self.check([], [0], self.rows(*start, tell, 1, step, 1, go, step))

    def test_another_wish(self):
        start = [("come", "ann", 0), ("want", "ann", A)]
        tell, step, stop = ("tell", 0, ONE), ("step", 0, 1), ("unwant", "ann", A)
        other, away = ("want", "ann", LOW), ("unwant", "ann", LOW)
        self.check([("ann", 0, 0)], [0], self.rows(*start, other, tell, 1, stop, step))
        self.check([("ann", 0, 0)], [0], self.rows(*start, other, tell, 1, away, step))
        self.check([], [0], self.rows(*start, other, tell, 1, stop, away, step))
        self.check([], [0], self.rows(*start, tell, 1, other, stop, step))
        self.check([], [0], self.rows(*start, ("want", "ann", B), tell, 1, stop, step))
        # By several wishes it is missing once.
        self.check([("ann", 0, 0)], [0], self.rows(*start, other, ("want", "ann", ()), tell))

    def test_hands_that_move(self):
        start = [("come", "ann", 0), ("want", "ann", A)]
        tell, step, move = ("tell", 0, ONE), ("step", 0, 1), ("move", "ann", 1)
        self.check([("ann", 0, 0)], [0], self.rows(*start, tell, 1, move, step))
        self.check([("ann", 0, 0)], [0], self.rows(*start, move, 1, tell, step))
        self.check([("ann", 0, 0)], [0], self.rows(*start, move, 2, tell, step, step))

    def test_posts_that_grow(self):
        start = [("come", "ann", 0), ("want", "ann", A)]
        tell, step, grow = ("tell", 1, ONE), ("step", 0, 1), ("grow", 0)
        self.check([("ann", 1, 0)], [], self.rows(*start, grow, tell))
        self.check([], [], self.rows(*start, grow, 1, tell, step))
        self.check([("ann", 1, 1)], [], self.rows(*start, grow, 1, tell, step, tell))
        self.check([("ann", 1, 0)], [], self.rows(*start, grow, 1, step, tell))
        self.check([("ann", 1, 0)], [0], self.rows(*start, ("grow", 0), 1, tell, step))
        self.check([], [0], self.rows(*start, ("grow", 0), 1, ("tell", 2, ONE), step))
        # Each grown post is the next one.
        grown = self.rows(*start, grow, grow, 1, tell, ("tell", 2, ONE), step, ("tell", 2, ONE))
        self.check([("ann", 1, 0), ("ann", 2, 1)], [], grown)

    def test_a_hand_that_was_never_given_anything(self):
        rows = a_run().rows()
        for hand in ("ann", "ben"):
            bare = [(deed, letters, [one for one in given if one[0] != hand]) for deed, letters, given in rows]
            due = missing_by_words([0, 0], bare)
            self.check(due, [0, 0], bare)
            self.assertEqual({one[0] for one in due}, {hand})
            self.assertGreater(len(due), 2)

    def test_changed_runs(self):
        found = 0
        for seed in range(120):
            chance = random.Random(seed)
            web = some_web(chance)
            roads = Roads(web)
            for _ in range(4):
                some_run(chance, roads, 25)
                rest_in_any_order(chance, roads)
            rows = changed_rows(chance, roads.rows())
            due = missing_by_words(web, rows)
            self.check(due, web, rows)
            bare = [(deed, letters, given if chance.random() < 0.5 else []) for deed, letters, given in rows]
            due = missing_by_words(web, bare)
            self.check(due, web, bare)
            found += len(due)
        self.assertGreater(found, 300)

    def test_two_thousand_rows(self):
        rows = self.rows(("come", "ann", 0), ("want", "ann", A), *[("tell", 0, ONE)] * 1998)
        check_told(self, [("ann", 0, number) for number in range(1998)], missing, [], rows)


class Own(unittest.TestCase):
    """2: what is handed in stays as it is."""

    def test_rows(self):
        rows = a_run().rows()
        lists = lists_within(rows)
        for ask in (lambda: first_wrong([0, 0], rows), lambda: first_out_of_order(rows), lambda: missing([0, 0], rows)):
            ask()
            self.assertEqual(rows, a_run().rows())
        told = missing([0, 0], [(deed, letters, []) for deed, letters, given in rows])
        check_own(self, told, lists)
        roads = roads_of([0, 0], [row[0] for row in rows])
        check_own(self, roads.rows(), lists)


if __name__ == "__main__":
    unittest.main()

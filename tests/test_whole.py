"""Promise 4: over whole runs, in whatever order the letters on the roads are heard."""

import random
import unittest

from helper import NAMES, do_call, greatest_by_words, missing_by_words, out_of_order_by_words, rest_in_any_order
from helper import some_call, some_piece, some_run, some_web, still_moments, wanted_by_words
from newsways.roads import Roads
from newsways.webs import neighbours, side


def roads_of_web(web):
    return [(p, q) for p in range(len(web) + 1) for q in neighbours(web, p)]


def some_roads(seed, many=120):
    """Roads in the midst of a run, from time to time brought to rest."""
    chance = random.Random(seed)
    roads = Roads(some_web(chance))
    for _ in range(4):
        some_run(chance, roads, many // 4)
        if chance.random() < 0.5:
            rest_in_any_order(chance, roads)
    return chance, roads


class Given(unittest.TestCase):
    """4 (a)"""

    def test_nothing_twice_or_out_of_order(self):
        given = 0
        for seed in range(80):
            chance, roads = some_roads(seed)
            rest_in_any_order(chance, roads)
            self.assertIsNone(out_of_order_by_words(roads.rows()))
            given += sum(len(row[2]) for row in roads.rows())
            for hand in roads.hands():
                got = roads.got(hand)
                self.assertEqual(len({one[:2] for one in got}), len(got))
        self.assertGreater(given, 500)

    def test_nothing_that_was_not_wanted(self):
        """Hands on the way cannot change their wishes, so what is given is wanted when it is given, too."""
        kept = 0
        for seed in range(40):
            chance = random.Random(seed)
            roads = Roads(some_web(chance))
            for _ in range(120):
                rows = len(roads.rows())
                do_call(roads, some_call(chance, roads))
                for hand, teller, number, piece in [one for row in roads.rows()[rows:] for one in row[2]]:
                    self.assertTrue(any(wanted_by_words(wish, piece) for wish in roads.wishes(hand)))
                    told = [row[0] for row in roads.rows() if row[0][:2] == ("tell", teller)]
                    self.assertEqual(told[number], ("tell", teller, piece))
                kept += sum(len(row[2]) > 1 for row in roads.rows()[rows:])
        self.assertGreater(kept, 10)


class Lost(unittest.TestCase):
    """4 (b)"""

    def test_nothing(self):
        judged = 0
        for seed in range(80):
            chance, roads = some_roads(seed)
            web = roads.web()[:len(roads.web()) - sum(row[0][0] == "grow" for row in roads.rows())]
            rest_in_any_order(chance, roads)
            self.assertEqual(missing_by_words(web, roads.rows()), [])
            # Without what was given something would be missing: the runs are not empty of it.
            bare = [(deed, letters, []) for deed, letters, given in roads.rows()]
            judged += len(missing_by_words(web, bare))
        self.assertGreater(judged, 500)

    def test_hands_that_move_all_the_time(self):
        for seed in range(30):
            chance = random.Random(seed)
            roads = Roads([chance.randrange(at + 1) for at in range(5)])
            for hand in NAMES:
                roads.come(hand, chance.randrange(6))
                roads.want(hand, chance.choice([(), (("a", 0, 2),), (("a", None, 1),), (("b", 1, None),)]))
            rest_in_any_order(chance, roads)
            told = []
            for _ in range(150):
                if roads.lying() and chance.random() < 0.6:
                    roads.step(*chance.choice(roads.lying())[:2])
                elif chance.random() < 0.5:
                    do_call(roads, ("move", chance.choice(NAMES), chance.randrange(6)))
                else:
                    post, piece = chance.randrange(6), some_piece(chance)
                    told.append((post, roads.tell(post, piece), piece))
            rest_in_any_order(chance, roads)
            for hand in NAMES:
                wish = roads.wishes(hand)[0]
                self.assertEqual(sorted(roads.got(hand)), sorted(one for one in told if wanted_by_words(wish, one[2])))


class Still(unittest.TestCase):
    """4 (c)"""

    def beyond(self, roads, p, q):
        posts = side(roads.web(), p, q)
        return [hand for hand in roads.hands() if roads.where(hand) in posts]

    def test_each_post_knows_just_the_greatest_wishes_on_that_side(self):
        for seed in range(80):
            chance, roads = some_roads(seed)
            rest_in_any_order(chance, roads)
            self.assertFalse(any(roads.on_the_way(hand) for hand in roads.hands()))
            for p, q in roads_of_web(roads.web()):
                wishes = [wish for hand in self.beyond(roads, p, q) for wish in roads.wishes(hand)]
                self.assertEqual(roads.known(p, q), greatest_by_words(wishes))

    def test_a_piece_crosses_just_the_roads_beyond_which_it_is_wanted_each_once(self):
        for seed in range(40):
            chance, roads = some_roads(seed)
            rest_in_any_order(chance, roads)
            for _ in range(5):
                rows, post, piece = len(roads.rows()), chance.randrange(len(roads.web()) + 1), some_piece(chance)
                wanting = [h for h in roads.hands() if any(wanted_by_words(w, piece) for w in roads.wishes(h))]
                number = roads.tell(post, piece)
                rest_in_any_order(chance, roads)
                crossed = [one[:2] for row in roads.rows()[rows:] for one in row[1]]
                due = [(p, q) for p, q in roads_of_web(roads.web()) if post not in side(roads.web(), p, q)
                       and set(self.beyond(roads, p, q)) & set(wanting)]
                self.assertEqual(sorted(crossed), sorted(due))
                given = [one for row in roads.rows()[rows:] for one in row[2]]
                self.assertEqual(sorted(given), [(hand, post, number, piece) for hand in wanting])


class Everywhere(unittest.TestCase):
    """4 (d)"""

    def check(self, roads):
        for p, q in roads_of_web(roads.web()):
            comes = roads.known(p, q)
            for letter in [one for r, s, letters in roads.lying() if (r, s) == (q, p) for one in letters]:
                if letter[0] == "want":
                    self.assertNotIn(letter[1], comes)
                    comes.append(letter[1])
                elif letter[0] == "unwant":
                    self.assertIn(letter[1], comes)
                    comes.remove(letter[1])
            self.assertEqual(sorted(comes, key=repr), sorted(roads.said(q, p), key=repr))

    def test_what_is_known_comes_to_what_was_said(self):
        for seed in range(25):
            chance = random.Random(seed)
            roads = Roads(some_web(chance))
            for _ in range(100):
                some_run(chance, roads, 1)
                self.check(roads)


class WhateverTheOrder(unittest.TestCase):
    def test_the_same_comes_of_it(self):
        """The same deeds, brought to rest behind each in any order, come to the same knowledge and gifts."""
        for seed in range(15):
            told = []
            for order in range(4):
                chance, steps = random.Random(seed), random.Random(order)
                roads = Roads(some_web(chance))
                for _ in range(40):
                    call = some_call(chance, roads)
                    do_call(roads, call)
                    rest_in_any_order(steps, roads)
                self.assertTrue(still_moments(roads.rows())[-1])
                known = [roads.known(p, q) for p, q in roads_of_web(roads.web())]
                told.append([known, [(hand, roads.where(hand), roads.got(hand)) for hand in roads.hands()]])
            self.assertEqual(told, told[:1] * 4)


if __name__ == "__main__":
    unittest.main()

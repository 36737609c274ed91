"""Promises 15 and 16, and of 2 and 3 what they say of webs."""

import itertools
import random
import unittest

from helper import GREATEST, NO_NUMBERS, NO_WEBS, check_refused, check_told
from newsways.errors import NoPost, NoRoad, NoWeb
from newsways.webs import how_many_posts, is_web, meeting, neighbours, side, way

ONE = []
CHAIN = list(range(23))
STAR = [0] * 23
TREE = [0, 0, 1, 1, 2, 5, 3]
SMALL = [list(web) for many in range(5) for web in itertools.product(*[range(at + 1) for at in range(many)])]


def some_webs():
    chance = random.Random(10)
    return SMALL + [ONE, CHAIN, STAR, TREE] + [
        [chance.randrange(at + 1) for at in range(chance.choice([6, 11, 22, 23]))] for _ in range(12)
    ]


def roads(web):
    """By the document's words: the two posts of each road."""
    return [{at + 1, post} for at, post in enumerate(web)]


def reached(web, start, barred):
    """The posts to which one comes from the start without a barred road, each with the way to it."""
    ways = {start: [start]}
    waiting = [start]
    while waiting:
        post = waiting.pop()
        for road in roads(web):
            if post in road and road != barred:
                (other,) = road - {post}
                if other not in ways:
                    ways[other] = ways[post] + [other]
                    waiting.append(other)
    return ways


class IsWeb(unittest.TestCase):
    def test_webs(self):
        for web in some_webs():
            check_told(self, True, is_web, web)

    def test_from_nought_to_its_place(self):
        for at in range(23):
            for number in (-1, 0, at // 2, at, at + 1, at + 2):
                web = [0] * 23
                web[at] = number
                check_told(self, 0 <= number <= at, is_web, web)

    def test_at_most_twenty_three_numbers(self):
        for many in range(23 + 5):
            check_told(self, many <= 23, is_web, [0] * many)
            check_told(self, many <= 23, is_web, list(range(many)))

    def test_anything_else(self):
        for thing in NO_WEBS:
            check_told(self, False, is_web, thing)


class Refused(unittest.TestCase):
    def test_no_web_goes_ahead_of_all_else(self):
        for thing in NO_WEBS:
            check_refused(self, NoWeb, how_many_posts, thing)
            for post in (0, 1, -1, None, "0", [], True):
                check_refused(self, NoWeb, neighbours, thing, post)
                check_refused(self, NoWeb, way, thing, post, 0)
                check_refused(self, NoWeb, way, thing, 0, post)
                check_refused(self, NoWeb, side, thing, 0, post)
                check_refused(self, NoWeb, meeting, thing, 0, 0, post)

    def no_posts(self, web):
        return NO_NUMBERS + [len(web) + 1, len(web) + 2, 24, 99, GREATEST]

    def test_no_post(self):
        for web in (ONE, [0], TREE, CHAIN, STAR):
            for thing in self.no_posts(web):
                check_refused(self, NoPost, neighbours, web, thing)
                for ask in (way, side):
                    check_refused(self, NoPost, ask, web, thing, 0)
                    check_refused(self, NoPost, ask, web, 0, thing)
                    check_refused(self, NoPost, ask, web, thing, thing)
                check_refused(self, NoPost, meeting, web, thing, 0, 0)
                check_refused(self, NoPost, meeting, web, 0, thing, 0)
                check_refused(self, NoPost, meeting, web, 0, 0, thing)

    def test_no_road(self):
        for web in some_webs():
            for p, q in itertools.product(range(len(web) + 1), repeat=2):
                if {p, q} not in roads(web):
                    check_refused(self, NoRoad, side, web, p, q)

    def test_no_road_of_one_post_twice(self):
        for web in (ONE, [0], CHAIN):
            for post in range(len(web) + 1):
                check_refused(self, NoRoad, side, web, post, post)


class HowManyPosts(unittest.TestCase):
    def test_one_more_than_numbers(self):
        check_told(self, 1, how_many_posts, [])
        check_told(self, 2, how_many_posts, [0])
        check_told(self, 24, how_many_posts, STAR)
        for web in some_webs():
            check_told(self, len(web) + 1, how_many_posts, web)


class Neighbours(unittest.TestCase):
    def test_as_written(self):
        check_told(self, [], neighbours, ONE, 0)
        check_told(self, [1], neighbours, [0], 0)
        check_told(self, [0], neighbours, [0], 1)
        check_told(self, [1, 2], neighbours, TREE, 0)
        check_told(self, [0, 3, 4], neighbours, TREE, 1)
        check_told(self, [1, 7], neighbours, TREE, 3)
        check_told(self, [5], neighbours, TREE, 6)

    def test_chain_and_star(self):
        check_told(self, [1], neighbours, CHAIN, 0)
        check_told(self, [11, 13], neighbours, CHAIN, 12)
        check_told(self, [22], neighbours, CHAIN, 23)
        check_told(self, list(range(1, 24)), neighbours, STAR, 0)
        for post in range(1, 24):
            check_told(self, [0], neighbours, STAR, post)

    def test_each(self):
        for web in some_webs():
            for post in range(len(web) + 1):
                due = [other for other in range(len(web) + 1) if {post, other} in roads(web)]
                check_told(self, due, neighbours, web, post)


class Way(unittest.TestCase):
    def test_as_written(self):
        check_told(self, [0], way, ONE, 0, 0)
        check_told(self, [0, 1], way, [0], 0, 1)
        check_told(self, [1, 0], way, [0], 1, 0)
        check_told(self, [7, 3, 1, 0, 2, 5, 6], way, TREE, 7, 6)
        check_told(self, [4, 1, 3], way, TREE, 4, 3)
        check_told(self, [7, 3, 1], way, TREE, 7, 1)
        check_told(self, [1, 3, 7], way, TREE, 1, 7)
        check_told(self, [5], way, TREE, 5, 5)

    def test_chain_and_star(self):
        check_told(self, list(range(24)), way, CHAIN, 0, 23)
        check_told(self, list(range(23, -1, -1)), way, CHAIN, 23, 0)
        check_told(self, [7, 0, 3], way, STAR, 7, 3)
        check_told(self, [0, 3], way, STAR, 0, 3)

    def test_each_two(self):
        for web in some_webs():
            for p in range(len(web) + 1):
                ways = reached(web, p, None)
                self.assertEqual(len(ways), len(web) + 1)
                for q in ways:
                    check_told(self, ways[q], way, web, p, q)


class Side(unittest.TestCase):
    def test_as_written(self):
        check_told(self, [1], side, [0], 0, 1)
        check_told(self, [0], side, [0], 1, 0)
        check_told(self, [1, 3, 4, 7], side, TREE, 0, 1)
        check_told(self, [0, 2, 5, 6], side, TREE, 1, 0)
        check_told(self, [3, 7], side, TREE, 1, 3)
        check_told(self, [0, 1, 2, 4, 5, 6], side, TREE, 3, 1)

    def test_chain_and_star(self):
        check_told(self, list(range(12, 24)), side, CHAIN, 11, 12)
        check_told(self, list(range(12)), side, CHAIN, 12, 11)
        check_told(self, [5], side, STAR, 0, 5)
        check_told(self, [post for post in range(24) if post != 5], side, STAR, 5, 0)

    def test_each_road(self):
        for web in some_webs():
            for road in roads(web):
                for p, q in itertools.permutations(road):
                    check_told(self, sorted(reached(web, q, road)), side, web, p, q)


class Meeting(unittest.TestCase):
    def test_as_written(self):
        check_told(self, 0, meeting, ONE, 0, 0, 0)
        check_told(self, 1, meeting, TREE, 7, 4, 6)
        check_told(self, 3, meeting, TREE, 7, 3, 6)
        check_told(self, 0, meeting, TREE, 1, 2, 0)
        check_told(self, 5, meeting, TREE, 6, 5, 2)

    def test_alike_posts(self):
        for web in (ONE, [0], TREE, CHAIN, STAR):
            for p, q in itertools.product(range(len(web) + 1), repeat=2):
                check_told(self, p, meeting, web, p, p, q)
                check_told(self, p, meeting, web, p, q, p)
                check_told(self, p, meeting, web, q, p, p)

    def test_chain_and_star(self):
        for posts in itertools.permutations([2, 9, 20]):
            check_told(self, 9, meeting, CHAIN, *posts)
            check_told(self, 0, meeting, STAR, *posts)
        check_told(self, 0, meeting, STAR, 0, 4, 5)

    def test_each_three(self):
        for web in some_webs():
            ways = {p: reached(web, p, None) for p in range(len(web) + 1)}
            posts = range(0, len(web) + 1, 1 if len(web) < 12 else 3)
            for p, q, r in itertools.product(posts, repeat=3):
                (due,) = set(ways[p][q]) & set(ways[q][r]) & set(ways[p][r])
                self.assertEqual(meeting(web, p, q, r), due)


if __name__ == "__main__":
    unittest.main()

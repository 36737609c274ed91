"""Webs: posts joined by roads into a tree, told by a list of the posts to which the roads lead."""

from newsways.errors import NoPost, NoRoad, NoWeb
from newsways.spans import is_whole

MOST_ROADS = 23


def is_web(thing):
    if not isinstance(thing, list) or len(thing) > MOST_ROADS:
        return False
    return all([is_whole(post) and 0 <= post <= at for at, post in enumerate(thing)])


def check_web(thing):
    if not is_web(thing):
        raise NoWeb(f"a web is a list of at most {MOST_ROADS} whole numbers, the one at place i from 0 to i")


def is_post(web, thing):
    return is_whole(thing) and 0 <= thing <= len(web)


def check_post(web, thing):
    if not is_post(web, thing):
        raise NoPost("what was handed in is no number of a post of the web")


def check_road(web, p, q):
    check_post(web, p)
    check_post(web, q)
    check_joined(web, p, q)


def check_joined(web, p, q):
    """Refuses with NoRoad also what is no post."""
    if not is_post(web, p) or not is_post(web, q) or q not in roads_from(web, p):
        raise NoRoad("no road joins the two posts")


def how_many_posts(web):
    check_web(web)
    return len(web) + 1


def neighbours(web, p):
    check_web(web)
    check_post(web, p)
    return roads_from(web, p)


def way(web, p, q):
    check_web(web)
    check_post(web, p)
    check_post(web, q)
    return way_between(web, p, q)


def side(web, p, q):
    check_web(web)
    check_road(web, p, q)
    return [post for post in range(len(web) + 1) if q in way_between(web, post, p)]


def meeting(web, p, q, r):
    check_web(web)
    for post in (p, q, r):
        check_post(web, post)
    first_way = way_between(web, p, q)
    second_way = way_between(web, q, r)
    third_way = way_between(web, p, r)
    shared = [post for post in first_way if post in second_way and post in third_way]
    return shared[0]


# From here on the web is known to be one, and the posts to be posts of it.


def roads_from(web, p):
    """The posts to which a road leads from p, rising."""
    # The one road back leads to a lesser number, all others to greater ones.
    back = [web[p - 1]] if p > 0 else []
    return back + [at + 1 for at, post in enumerate(web) if post == p]


def way_back(web, p):
    """The way from p to post 0."""
    posts = [p]
    while posts[-1] > 0:
        posts.append(web[posts[-1] - 1])
    return posts


def way_between(web, p, q):
    """The way from p to q, both ends among its posts."""
    back_from_p = way_back(web, p)
    back_from_q = way_back(web, q)
    ahead = [post for post in back_from_p if post not in back_from_q]
    behind = [post for post in back_from_q if post not in back_from_p]
    turn = back_from_p[len(ahead)]
    return ahead + [turn] + behind[::-1]

"""Where all is still: what is known then, where a piece goes, and how many letters a change of wishes makes."""

from newsways.errors import Full, NoHand, NoStands, NotWanted, Twice
from newsways.letters import is_name
from newsways.lists import greatest_of, is_under
from newsways.pools import wishes_in_order
from newsways.roads import MOST_HANDS, MOST_WISHES
from newsways.webs import check_joined, check_post, check_web, is_post, way_between
from newsways.wishes import are_unlike_wishes, check_piece, check_wish, is_wish, one_takes, wish_reaches


def known_at_rest(web, stands, p, q):
    check_stands(web, stands)
    check_joined(web, p, q)
    return wishes_in_order(greatest_of(wishes_beyond(web, stands, p, q)))


def roads_crossed(web, stands, post, piece):
    check_stands(web, stands)
    check_post(web, post)
    check_piece(piece)
    places = [place for hand, place, wishes in stands if one_takes(wishes, piece)]
    return sorted({road for place in places for road in roads_between(web, post, place)})


def who_gets(web, stands, piece):
    check_stands(web, stands)
    check_piece(piece)
    return sorted([hand for hand, place, wishes in stands if one_takes(wishes, piece)])


def letters_of_want(web, stands, hand, wish):
    check_stands(web, stands)
    place, wishes = stand_of(stands, hand)
    check_wish(wish)
    if wish in wishes:
        raise Twice("the hand wants this already")
    if len(wishes) >= MOST_WISHES:
        raise Full(f"the hand has {MOST_WISHES} wishes already")
    return how_far(web, stands, place, wish)


def letters_of_unwant(web, stands, hand, wish):
    check_stands(web, stands)
    place, wishes = stand_of(stands, hand)
    if not is_wish(wish) or wish not in wishes:
        raise NotWanted("the hand does not want this")
    # Where a wish goes, all turns about that its coming would do.
    come, gone = how_far(web, stands_without(stands, hand, wish), place, wish)
    return (gone, come)


def is_stand(web, thing):
    if not isinstance(thing, tuple) or len(thing) != 3:
        return False
    hand, place, wishes = thing
    return is_name(hand) and is_post(web, place) and are_unlike_wishes(wishes) and len(wishes) <= MOST_WISHES


def are_stands(web, thing):
    if not isinstance(thing, list) or len(thing) > MOST_HANDS:
        return False
    if not all([is_stand(web, stand) for stand in thing]):
        return False
    return len({hand for hand, place, wishes in thing}) == len(thing)


def check_stands(web, stands):
    check_web(web)
    if not are_stands(web, stands):
        raise NoStands("stands are a list of tuples (hand, post, wishes), the hands unlike")


# From here on the web and the stands are known to be such.


def stand_of(stands, thing):
    """Where the hand stands and what it wants."""
    for hand, place, wishes in stands:
        if hand == thing:
            return (place, wishes)
    raise NoHand("no such hand stands there")


def stands_without(stands, hand, wish):
    """The stands where the hand does not want this wish."""
    others = [stand for stand in stands if stand[0] != hand]
    place, wishes = stand_of(stands, hand)
    return others + [(hand, place, [other for other in wishes if other != wish])]


def wishes_beyond(web, stands, p, q):
    """The wishes of all hands on the side of q, seen from its neighbour p."""
    beyond = [wishes for hand, place, wishes in stands if q in way_between(web, place, p)]
    return [wish for wishes in beyond for wish in wishes]


def roads_between(web, p, q):
    posts = way_between(web, p, q)
    return list(zip(posts, posts[1:]))


def how_far(web, stands, place, wish):
    """On how many roads a hand at this place makes it said that it wants a wish more, and how many are unsaid there."""
    # What is said on a road changes but once: as wants go ahead of unwants, all that comes or goes meanwhile on the
    # roads ahead of it stays under the wish.
    said = 0
    unsaid = 0
    for post in range(len(web) + 1):
        if post != place:
            teller = way_between(web, post, place)[1]
            others = wishes_beyond(web, stands, post, teller)
            if wish not in others and not is_under(wish, others):
                said += 1
                unsaid += how_many_tops_under(wish, others)
    return (said, unsaid)


def how_many_tops_under(wish, others):
    """How many of the greatest of the others the wish covers."""
    covered = {other: True for other in others if wish_reaches(wish, other)}
    return len([other for other in covered if not is_under(other, others)])

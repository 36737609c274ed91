"""Runs: deeds done one behind the other, and rows of them judged."""

from newsways.errors import Full, NoHand, NoLetter, NoPost, NoRoad, NotWanted, OnTheWay, Stuck, Twice
from newsways.letters import is_from_nought, is_name
from newsways.roads import Roads
from newsways.watches import Watch
from newsways.webs import check_web
from newsways.wishes import is_piece, is_wish

# What stands behind the word of a deed, by the word.
DEED_PARTS = {
    "come": ("hand", "post"),
    "go": ("hand",),
    "want": ("hand", "wish"),
    "unwant": ("hand", "wish"),
    "tell": ("post", "piece"),
    "move": ("hand", "post"),
    "grow": ("post",),
    "step": ("post", "post"),
}


def is_deed(thing):
    if not isinstance(thing, tuple) or not thing or not isinstance(thing[0], str):
        return False
    if thing[0] not in DEED_PARTS:
        return False
    kinds = DEED_PARTS[thing[0]]
    return len(thing) == 1 + len(kinds) and all([is_part(kind, part) for kind, part in zip(kinds, thing[1:])])


def is_part(kind, thing):
    if kind == "hand":
        return is_name(thing)
    if kind == "post":
        return is_from_nought(thing)
    return is_wish(thing) if kind == "wish" else is_piece(thing)


def roads_of(web, deeds):
    check_web(web)
    roads = Roads(web)
    for at, deed in enumerate(deeds):
        word = refusal_of(roads, deed)
        if word is not None:
            raise Stuck(at, word)
    return roads


def first_wrong(web, rows):
    check_web(web)
    roads = Roads(web)
    for at, (deed, letters, given) in enumerate(rows):
        if refusal_of(roads, deed) is not None:
            return at
        done, due_letters, due_given = roads.run[-1]
        if letters != due_letters or given != due_given:
            return at
    return None


def first_out_of_order(rows):
    # The last number of each teller that each hand was given since it came; they rise as long as all is right.
    last = {}
    for at, (deed, letters, given) in enumerate(rows):
        if deed[0] == "come":
            last[deed[1]] = {}
        for hand, teller, number, piece in given:
            numbers = last.setdefault(hand, {})
            if teller in numbers and number <= numbers[teller]:
                return at
            numbers[teller] = number
    return None


def missing(web, rows):
    check_web(web)
    watch = Watch(web)
    for row in rows:
        watch.see(row)
    return watch.found


def do(roads, deed):
    """Does a deed on roads, and tells what they tell of it."""
    word = deed[0]
    if word == "come":
        return roads.come(deed[1], deed[2])
    if word == "go":
        return roads.go(deed[1])
    if word == "want":
        return roads.want(deed[1], deed[2])
    if word == "unwant":
        return roads.unwant(deed[1], deed[2])
    if word == "tell":
        return roads.tell(deed[1], deed[2])
    if word == "move":
        return roads.move(deed[1], deed[2])
    if word == "grow":
        return roads.grow(deed[1])
    return roads.step(deed[1], deed[2])


def refusal_of(roads, deed):
    """The name of the class that refuses the deed, or None where it was done."""
    if not is_deed(deed):
        return "NoDeed"
    # These alone can refuse what has the form of a deed.
    try:
        do(roads, deed)
    except Twice:
        return "Twice"
    except NoPost:
        return "NoPost"
    except Full:
        return "Full"
    except NoHand:
        return "NoHand"
    except OnTheWay:
        return "OnTheWay"
    except NotWanted:
        return "NotWanted"
    except NoRoad:
        return "NoRoad"
    except NoLetter:
        return "NoLetter"
    return None

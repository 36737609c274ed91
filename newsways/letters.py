"""Letters: what posts write to one another."""

from newsways.spans import is_whole
from newsways.wishes import is_field, is_piece, is_wish


def is_name(thing):
    # A name has the form of a field: one to eight small letters.
    return is_field(thing)


def is_letter(thing):
    if not isinstance(thing, tuple) or not thing or not isinstance(thing[0], str):
        return False
    if thing[0] not in FORMS:
        return False
    form = FORMS[thing[0]]
    return form(thing[1:])


def is_from_nought(thing):
    """Whether it is a whole number from 0 on."""
    return is_whole(thing) and thing >= 0


def is_way(thing):
    if not isinstance(thing, tuple) or len(thing) < 2:
        return False
    return all([is_from_nought(post) for post in thing]) and len(set(thing)) == len(thing)


def is_mark(thing):
    return isinstance(thing, tuple) and len(thing) == 2 and all([is_from_nought(number) for number in thing])


def are_marks(thing):
    if not isinstance(thing, tuple) or not all([is_mark(mark) for mark in thing]):
        return False
    return all([ahead[0] < behind[0] for ahead, behind in zip(thing, thing[1:])])


def is_numbered_piece(thing):
    """Whether it is a tuple (teller, number, piece)."""
    return isinstance(thing, tuple) and len(thing) == 3 and is_mark(thing[:2]) and is_piece(thing[2])


def are_numbered_pieces(thing):
    return isinstance(thing, tuple) and all([is_numbered_piece(numbered) for numbered in thing])


# What stands behind the word of a letter, by the word.


def behind_want(rest):
    return len(rest) == 1 and is_wish(rest[0])


def behind_news(rest):
    return is_numbered_piece(rest)


def behind_here(rest):
    return len(rest) == 2 and is_name(rest[0]) and is_way(rest[1])


def behind_kept(rest):
    return len(rest) == 4 and behind_here(rest[:2]) and are_marks(rest[2]) and are_numbered_pieces(rest[3])


FORMS = {
    "want": behind_want,
    "unwant": behind_want,
    "news": behind_news,
    "here": behind_here,
    "kept": behind_kept,
}

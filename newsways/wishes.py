"""Wishes and pieces: what is wanted, and what is told."""

from newsways.errors import NoPiece, NoWish
from newsways.spans import is_span, is_whole, number_apart, number_of, span_holds, span_reaches, span_shared

MOST_LETTERS = 8


def is_field(thing):
    if not isinstance(thing, str) or not 1 <= len(thing) <= MOST_LETTERS:
        return False
    return all(["a" <= sign <= "z" for sign in thing])


def is_wish_part(thing):
    if not isinstance(thing, tuple) or len(thing) != 3:
        return False
    field, low, high = thing
    return is_field(field) and is_span((low, high))


def is_piece_part(thing):
    if not isinstance(thing, tuple) or len(thing) != 2:
        return False
    field, number = thing
    return is_field(field) and is_whole(number)


def fields_ascend(parts):
    """Whether the fields of the parts are unlike and ascending."""
    return all([ahead[0] < behind[0] for ahead, behind in zip(parts, parts[1:])])


def is_wish(thing):
    if not isinstance(thing, tuple):
        return False
    return all([is_wish_part(part) for part in thing]) and fields_ascend(thing)


def is_piece(thing):
    if not isinstance(thing, tuple):
        return False
    return all([is_piece_part(part) for part in thing]) and fields_ascend(thing)


def check_wish(thing):
    if not is_wish(thing):
        raise NoWish("a wish is a tuple of tuples (field, low, high), the fields unlike and ascending")


def check_piece(thing):
    if not is_piece(thing):
        raise NoPiece("a piece is a tuple of tuples (field, number), the fields unlike and ascending")


def are_wishes(thing):
    """Whether it is a list of wishes."""
    return isinstance(thing, list) and all([is_wish(wish) for wish in thing])


def are_unlike_wishes(thing):
    return are_wishes(thing) and len(set(thing)) == len(thing)


def check_wishes(thing):
    if not are_wishes(thing):
        raise NoWish("a list of wishes is due")


def check_unlike_wishes(thing):
    if not are_unlike_wishes(thing):
        raise NoWish("a list of unlike wishes is due")


def wants(wish, piece):
    check_wish(wish)
    check_piece(piece)
    return wish_takes(wish, piece)


def covers(one, other):
    check_wish(one)
    check_wish(other)
    return wish_reaches(one, other)


def wish_met(one, other):
    check_wish(one)
    check_wish(other)
    return wish_shared(one, other)


def parting_piece(one, other):
    check_wish(one)
    check_wish(other)
    if wish_reaches(other, one):
        return None
    # A field that only the other has parts them by itself: the piece lacks it.
    other_spans = spans_by_field(other)
    piece = []
    for field, low, high in one:
        number = number_apart((low, high), other_spans.get(field, (None, None)))
        if number is None:
            number = number_of((low, high))
        piece.append((field, number))
    return tuple(piece)


def in_order(wishes):
    check_wishes(wishes)
    return sorted(wishes, key=rank)


# From here on the wishes and pieces are known to be such.


def spans_by_field(wish):
    return {field: (low, high) for field, low, high in wish}


def wish_takes(wish, piece):
    """Whether the wish wants the piece."""
    numbers = {field: number for field, number in piece}
    for field, low, high in wish:
        if field not in numbers or not span_holds((low, high), numbers[field]):
            return False
    return True


def one_takes(wishes, piece):
    """Whether at least one of the wishes wants the piece."""
    return any([wish_takes(wish, piece) for wish in wishes])


def wish_reaches(one, other):
    """Whether the one wants each piece that the other wants."""
    return reaches_spans(one, spans_by_field(other))


def reaches_spans(one, other_spans):
    """Whether the one wants each piece that a wish of these spans, by their fields, wants."""
    # No span is empty, so what the other asks less than the one, some piece of it lacks.
    for field, low, high in one:
        if field not in other_spans or not span_reaches((low, high), other_spans[field]):
            return False
    return True


def wish_shared(one, other):
    """The wish that wants just the pieces that both want, or None."""
    met = spans_by_field(one)
    for field, low, high in other:
        shared = span_shared(met.get(field, (None, None)), (low, high))
        if shared is None:
            return None
        met[field] = shared
    return tuple([(field, met[field][0], met[field][1]) for field in sorted(met)])


def rank(wish):
    """What the order of wishes goes by: None has no place among numbers, so each end tells first which it is."""
    return [(field, rank_of_low(low), rank_of_high(high)) for field, low, high in wish]


def rank_of_low(low):
    return (0, 0) if low is None else (1, low)


def rank_of_high(high):
    return (1, 0) if high is None else (0, high)

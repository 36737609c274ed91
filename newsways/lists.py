"""Lists of wishes: the greatest ones, and what several wishes want together."""

from newsways.errors import NoField, TooMany
from newsways.spans import how_many_in, number_of
from newsways.wishes import check_wish, check_wishes, is_field, rank, reaches_spans, spans_by_field, wish_shared

MOST_WISHES = 7
MOST_FIELDS = 3


def greatest(wishes):
    check_wishes(wishes)
    return sorted(greatest_of(wishes), key=rank)


def uncovered_piece(wish, wishes):
    check_wish(wish)
    check_wishes(wishes)
    check_few(wishes, fields_of(wishes + [wish]))
    return piece_beside(wish, wishes)


def lean(wishes):
    check_wishes(wishes)
    check_few(wishes, fields_of(wishes))
    stay = greatest(wishes)
    for wish in reversed(greatest(wishes)):
        others = all_but(wish, stay)
        if piece_beside(wish, others) is None:
            stay = others
    return [(wish, piece_beside(wish, all_but(wish, stay))) for wish in stay]


def how_many_pieces(wishes, fields=None):
    check_wishes(wishes)
    if fields is not None:
        check_fields(fields)
    own_fields = fields_of(wishes)
    check_few(wishes, own_fields)
    return how_many_wanted(wishes, own_fields if fields is None else fields)


def check_few(wishes, fields):
    if len(wishes) > MOST_WISHES:
        raise TooMany(f"at most {MOST_WISHES} wishes are due")
    if len(fields) > MOST_FIELDS:
        raise TooMany(f"at most {MOST_FIELDS} unlike fields are due")


def check_fields(thing):
    if not is_list_of_fields(thing):
        raise NoField(f"a list of at most {MOST_FIELDS} unlike fields, ascending, is due")


def is_list_of_fields(thing):
    if not isinstance(thing, list) or len(thing) > MOST_FIELDS:
        return False
    if not all([is_field(field) for field in thing]):
        return False
    return all([ahead < behind for ahead, behind in zip(thing, thing[1:])])


# From here on the wishes are known to be such, and few enough where it matters.


def fields_of(wishes):
    """The unlike fields of the wishes, ascending."""
    return sorted({field for wish in wishes for field, low, high in wish})


def all_but(wish, wishes):
    return [other for other in wishes if other != wish]


def greatest_of(wishes):
    """Those that no unlike one of them covers, each once, in the order in which they stand."""
    unlike = {wish: True for wish in wishes}
    return [wish for wish in unlike if not is_under(wish, unlike)]


def is_under(wish, others):
    """Whether one of the others, unlike the wish, covers it."""
    spans = spans_by_field(wish)
    for other in others:
        if reaches_spans(other, spans) and other != wish:
            return True
    return False


def piece_beside(wish, others):
    """A piece that the wish wants and none of the others wants, or None."""
    # A field more could only make others want the piece, so the wish's own fields are enough.
    parts = parts_beside(wish, others)
    if not parts:
        return None
    return tuple([(field, number_of((low, high))) for field, low, high in parts[0]])


def parts_beside(wish, others):
    """The wish without the others, as far as pieces of just its own fields go.

    Told are wishes of the same fields, no two of which want the same piece of just these fields.
    """
    parts = [wish]
    for other in others:
        parts = [smaller for part in parts for smaller in parts_beside_one(part, other)]
    return parts


def parts_beside_one(wish, other):
    met = wish_shared(wish, other)
    if met is None or len(met) > len(wish):
        # Where the other has a field more, it wants no piece of just the wish's fields.
        return [wish]
    parts = []
    for at, (field, low, high) in enumerate(wish):
        # What lies beside the other in this field, but not in one ahead: those were parted off already.
        for part_low, part_high in spans_beside((low, high), (met[at][1], met[at][2])):
            parts.append(met[:at] + ((field, part_low, part_high),) + wish[at + 1:])
    return parts


def spans_beside(span, inner):
    """The stretches of the span below and above the inner one, which lies within it."""
    low, high = span
    inner_low, inner_high = inner
    below = [(low, inner_low - 1)] if inner_low != low else []
    above = [(inner_high + 1, high)] if inner_high != high else []
    return below + above


def how_many_wanted(wishes, fields):
    """How many pieces of just these fields at least one of the wishes wants; None where there is no end of them."""
    filled = [filled_up(wish, fields) for wish in wishes if has_no_more(wish, fields)]
    numbers = []
    for at, wish in enumerate(filled):
        # What a wish ahead wants, too, was counted there.
        numbers.extend([how_many_of(part) for part in parts_beside(wish, filled[:at])])
    return None if None in numbers else sum(numbers)


def has_no_more(wish, fields):
    return all([field in fields for field, low, high in wish])


def filled_up(wish, fields):
    """The wish with each of the fields, any number being wanted where it had none."""
    spans = spans_by_field(wish)
    return tuple([(field,) + spans.get(field, (None, None)) for field in fields])


def how_many_of(wish):
    """How many pieces of just its own fields the wish wants, or None where there is no end of them."""
    product = 1
    for field, low, high in wish:
        many = how_many_in((low, high))
        if many is None:
            return None
        product *= many
    return product

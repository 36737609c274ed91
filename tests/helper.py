"""What several test files need: things of all kinds, and a check of refusals."""

import copy


class Other:
    """A thing of a kind that the document does not speak of."""


def odd_things():
    """Things that are no span, no wish, no piece, no list of wishes and no whole number."""
    return [
        None, True, False, "", "a", "a:1..2", "(1, 2)", b"", b"ab", {}, {"a": 1}, {1: 2}, {"a": (1, 2)},
        set(), {1, 2}, frozenset([1]), [None], [1], [1, 2], [[]], [{}], [["a", 1, 2]], [("a", 1, 2)], [("a", 1)],
        (None,), (1,), ("a",), (1, 2, 3), ("a", "b"), ("a", 1), ("a", 1, 2), ("a", 1, 2, 3), ([],), ({},), ((),),
        ((1,),), (("a",),), (None, None, None), ([1, 2],), ({"a": 1},), Other(), Other, len, range(2), 1 .__add__,
    ]


def nested(depth):
    """A tuple in a tuple in a tuple, so deep."""
    thing = ()
    for _ in range(depth):
        thing = (thing,)
    return thing


def snapshot(thing):
    """A copy of plain things to compare with later; other objects stand for themselves."""
    if isinstance(thing, (list, tuple, dict, set)):
        return copy.deepcopy(thing)
    return thing


def same(one, other):
    """Whether two things are alike, also in their kinds (1 is not True)."""
    if type(one) is not type(other):
        return False
    if isinstance(one, (list, tuple)):
        return len(one) == len(other) and all(same(a, b) for a, b in zip(one, other))
    if isinstance(one, Other):
        return True
    return one == other


def check_refused(case, error, ask, *arguments):
    """The call is refused with just this class, and what was handed in is as it was."""
    before = [snapshot(argument) for argument in arguments]
    with case.assertRaises(error) as caught:
        ask(*arguments)
    case.assertIs(type(caught.exception), error)
    case.assertIsInstance(str(caught.exception), str)
    for argument, was in zip(arguments, before):
        case.assertTrue(same(argument, was))


def check_told(case, due, ask, *arguments):
    """The call tells just this, twice, of the kind that is due, and leaves what was handed in as it was."""
    before = [snapshot(argument) for argument in arguments]
    for _ in range(2):
        told = ask(*arguments)
        # The message is made only where it is needed: very great numbers cannot be written out.
        if not same(told, due):
            case.fail(f"{ask.__name__}{arguments} told {told}, due is {due}")
    for argument, was in zip(arguments, before):
        case.assertTrue(same(argument, was))

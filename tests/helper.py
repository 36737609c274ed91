"""What several test files need: things of all kinds, checks of what is told and refused, the document's words."""

import copy

GREAT = 10 ** 15 - 1
GREATER = 10 ** 40
# Beyond this many figures Python itself refuses to write a number out.
GREATEST = 10 ** 6000


class Other:
    """A thing of a kind that the document does not speak of."""


def odd_things():
    """Things that are no span, no wish, no piece, no list of wishes and no whole number."""
    return [
        None, True, False, "", "a", "a:1..2", "(1, 2)", b"", b"ab", {}, {"a": 1}, {1: 2}, {"a": (1, 2)},
        set(), {1, 2}, frozenset([1]), [None], [1], [1, 2], [[]], [{}], [["a", 1, 2]], [("a", 1, 2)], [("a", 1)],
        (None,), (1,), ("a",), (1, 2, 3), ("a", "b"), ("a", 1), ("a", 1, 2), ("a", 1, 2, 3), ([],), ({},), ((),),
        ((1,),), (("a",),), (None, None, None), ([1, 2],), ({"a": 1},), Other(), Other, len, range(2), 1 .__add__,
    ]


def nested(depth):
    """A tuple in a tuple in a tuple, so deep."""
    thing = ()
    for _ in range(depth):
        thing = (thing,)
    return thing


BAD_FIELDS = [
    "", "abcdefghi", "x" * 2000, "A", "aB", "a1", "1", "a b", " a", "a ", "a_b", "a-b", "a:", "*", "-", "a\n", "\t",
    "`", "{", "@", "~", None, True, 0, 1, b"a", ("a",), ["a"], {}, {"a": 1}, Other(),
]
NO_WISHES = odd_things() + [
    [], [("a", 1, 2)], [()], ((),), (((),),), ("a", 1, 2), (["a", 1, 2],), (("a", 1),), (("a",),), (("a", 1, 2, 3),),
    (("a", (1, 2)),), (("a", [1, 2]),), (("a", 2, 1),), (("a", 0, -1),), (("a", GREATER, -GREATER),),
    (("a", True, 2),), (("a", 0, True),), (("a", None, False),), (("a", False, None),), (("a", "1", 2),),
    (("a", 1, "2"),), (("a", [], None),), (("a", None, {}),), (("a", (), ()),), (1, "a", 2), ((1, "a", 2),),
    (("a", 1, 2), ("a", 1, 2)), (("a", 1, 2), ("a", 3, 4)), (("b", 1, 2), ("a", 1, 2)), (("ab", 1, 2), ("a", 1, 2)),
    (("a", 1, 2), ("c", 1, 2), ("b", 1, 2)), (("a", 1, 2), None), (("a", 1, 2), ["b", 1, 2]), (("a", 1, 2), ("b", 1)),
    (("a", 1, 2), ("b", 3, 1)), (("a", 2, 1), ("b", 1, 1)), (("a", 1, 2), ("b", 1, 2), ("b", 1, 2)), "", "a", {}, 0,
    {"a": (1, 2)}, ({"a": (1, 2)},), nested(20), (("a", 1), ("b", 2)), (("a", 1, 2), ("B", 1, 2)), 7, GREATEST, -1,
] + [((field, 1, 2),) for field in BAD_FIELDS] + [(("a", 1, 2), (field, 1, 2)) for field in BAD_FIELDS]
NO_PIECES = odd_things() + [
    [], [("a", 1)], [()], ((),), (((),),), ("a", 1), (["a", 1],), (("a",),), (("a", 1, 2),), (("a", None),),
    (("a", True),), (("a", False),), (("a", "1"),), (("a", []),), (("a", (1,)),), (("a", {}),), (1, "a"), ((1, "a"),),
    (("a", 1), ("a", 1)), (("a", 1), ("a", 2)), (("b", 1), ("a", 1)), (("ab", 1), ("a", 1)), (("a", b"1"),), "", "a",
    (("a", 1), ("c", 1), ("b", 1)), (("a", 1), None), (("a", 1), ["b", 1]), (("a", 1), ("b", 1, 2)), {"a": 1}, {}, 0,
    (("a", None), ("b", 1)), (("a", 1), ("b", None)), (("a", 1), ("b", 1), ("b", 1)), nested(20), 7, GREATEST, -1,
    (("a", Other()),), ({"a": 1},),
] + [((field, 1),) for field in BAD_FIELDS] + [(("a", 1), (field, 1)) for field in BAD_FIELDS]


def snapshot(thing):
    """A copy of plain things to compare with later; other objects stand for themselves."""
    if isinstance(thing, (list, tuple, dict, set)):
        return copy.deepcopy(thing)
    return thing


def same(one, other):
    """Whether two things are alike, also in their kinds (1 is not True)."""
    if type(one) is not type(other):
        return False
    if isinstance(one, (list, tuple)):
        return len(one) == len(other) and all(same(a, b) for a, b in zip(one, other))
    if isinstance(one, Other):
        return True
    return one == other


def check_refused(case, error, ask, *arguments):
    """The call is refused with just this class, and what was handed in is as it was."""
    before = [snapshot(argument) for argument in arguments]
    with case.assertRaises(error) as caught:
        ask(*arguments)
    case.assertIs(type(caught.exception), error)
    case.assertIsInstance(str(caught.exception), str)
    for argument, was in zip(arguments, before):
        case.assertTrue(same(argument, was))


def lists_within(thing):
    """All lists and dicts in a thing, itself too."""
    inner = []
    if isinstance(thing, (list, tuple)):
        inner = [found for part in thing for found in lists_within(part)]
    return inner + [thing] if isinstance(thing, (list, dict)) else inner


def check_own(case, told, others):
    """No list in what was told stands in it twice, or is one of the others."""
    found = [id(one) for one in lists_within(told)]
    case.assertEqual(len(found), len(set(found)))
    case.assertEqual([one for one in others if id(one) in found], [])


def check_told(case, due, ask, *arguments):
    """The call tells just this, twice, of the kind that is due, and leaves what was handed in as it was.

    Each list in what is told is a new one, and what is done to it changes nothing told later.
    """
    before = [snapshot(argument) for argument in arguments]
    lists = lists_within(arguments)
    for _ in range(2):
        told = ask(*arguments)
        # The message is made only where it is needed: very great numbers cannot be written out.
        if not same(told, due):
            case.fail(f"{ask.__name__}{arguments} told {told}, due is {due}")
        check_own(case, told, lists)
        lists += lists_within(told)
        for one in lists_within(told):
            one.clear()
    for argument, was in zip(arguments, before):
        case.assertTrue(same(argument, was))


def wanted_by_words(wish, piece):
    """By the document's words, field by field."""
    for field, low, high in wish:
        found = [number for name, number in piece if name == field]
        if not found:
            return False
        if low is not None and found[0] < low or high is not None and found[0] > high:
            return False
    return True

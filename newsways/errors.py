"""The refusals of Newsways, one class for each kind."""


class NewsError(ValueError):
    """Any refusal."""

    def __init__(self, text):
        ValueError.__init__(self, text)


class NoSpan(NewsError):
    """What was handed in is no span."""


class NoNumber(NewsError):
    """What was handed in is no whole number."""


class NoField(NewsError):
    """What was handed in is no list of fields."""


class NoWish(NewsError):
    """What was handed in is no wish, or no list of wishes."""


class NoPiece(NewsError):
    """What was handed in is no piece."""


class TooMany(NewsError):
    """There are too many wishes, or too many unlike fields."""


class NoName(NewsError):
    """What was handed in is no name."""


class Twice(NewsError):
    """What is to come is there already."""


class NotWanted(NewsError):
    """The wish that is to go is not there."""


class NoWeb(NewsError):
    """What was handed in is no web."""


class NoPost(NewsError):
    """What was handed in is no post of the web."""


class NoRoad(NewsError):
    """No road joins the posts."""


class NoHand(NewsError):
    """No such hand is there."""


class NoLetter(NewsError):
    """What was handed in is no letter that can be heard, or none lies there."""


class OnTheWay(NewsError):
    """The hand is on the way."""


class Full(NewsError):
    """There is no room for one more."""


class NoStands(NewsError):
    """What was handed in are no stands."""


class NoDeed(NewsError):
    """What was handed in is no deed."""


class NoText(NewsError):
    """What was handed in writes nothing."""


class NoRow(NewsError):
    """What was handed in is no row of words."""


class Stuck(NewsError):
    """A run cannot go on: the place of the deed in its list, and the word for why."""

    def __init__(self, place, word):
        NewsError.__init__(self, f"{place} {word}")
        self.place = place
        self.word = word

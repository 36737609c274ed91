"""The desk: roads by rows of words."""

from newsways.roads import Roads
from newsways.rows import read_row
from newsways.runs import DEED_PARTS, do
from newsways.texts import show_letter, show_numbered_piece, show_wish
from newsways.watches import Watch


def show_several(texts, between):
    return between.join(texts) if texts else "none"


def show_wishes(wishes):
    return show_several([show_wish(wish) for wish in wishes], " | ")


# The answers to rows that ask something of the roads, or bring them to rest; what is asked is known to be such a row.


def answer_rest(roads, asked):
    return str(roads.rest())


def answer_where(roads, asked):
    post = str(roads.where(asked[1]))
    return f"{post} on the way" if roads.on_the_way(asked[1]) else post


def answer_got(roads, asked):
    return show_several([show_numbered_piece(numbered) for numbered in roads.got(asked[1])], " | ")


def answer_wishes(roads, asked):
    return show_wishes(roads.wishes(asked[1]))


def answer_known(roads, asked):
    return show_wishes(roads.known(asked[1], asked[2]))


def answer_said(roads, asked):
    return show_wishes(roads.said(asked[1], asked[2]))


def answer_lying(roads, asked):
    return str(sum([len(letters) for p, q, letters in roads.lying()]))


def answer_first(roads, asked):
    letter = roads.first_letter(asked[1], asked[2])
    return "none" if letter is None else show_letter(letter)


def answer_hands(roads, asked):
    return show_several(roads.hands(), " ")


ANSWERS = {
    "rest": answer_rest,
    "where": answer_where,
    "got": answer_got,
    "wishes": answer_wishes,
    "known": answer_known,
    "said": answer_said,
    "lying": answer_lying,
    "first": answer_first,
    "hands": answer_hands,
}


class Desk:
    """Roads, and a watch over the rows of their run."""

    def __init__(self):
        self.begin([])

    def say(self, row):
        asked = read_row(row)
        if asked[0] == "web":
            self.begin(list(asked[1:]))
            return "ok"
        if asked[0] == "missing":
            return self.answer_missing()
        if asked[0] in DEED_PARTS:
            told = do(self.roads, asked)
            return "ok" if told is None else str(told)
        answer = ANSWERS[asked[0]]
        return answer(self.roads, asked)

    def begin(self, web):
        self.roads = Roads(web)
        self.watch = Watch(web)

    def answer_missing(self):
        # The watch has seen the rows up to its moment.
        for row in self.roads.run[self.watch.moment:]:
            self.watch.see(row)
        return show_several([f"{hand} {teller} {number}" for hand, teller, number in self.watch.found], " | ")

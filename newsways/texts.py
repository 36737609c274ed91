"""Texts: the one writing of each wish, piece, letter and deed, and its reading."""

from newsways.errors import NoDeed, NoLetter, NoText
from newsways.letters import is_letter, is_name
from newsways.runs import DEED_PARTS, is_deed
from newsways.wishes import check_piece, check_wish, is_piece, is_wish

MOST_FIGURES = 15


def show_wish(wish):
    check_wish(wish)
    parts = [f"{field}:{show_end(low)}..{show_end(high)}" for field, low, high in wish]
    return " ".join(parts) if parts else "-"


def show_piece(piece):
    check_piece(piece)
    parts = [f"{field}:{number}" for field, number in piece]
    return " ".join(parts) if parts else "-"


def show_letter(letter):
    if not is_letter(letter):
        raise NoLetter("what was handed in is no letter")
    word = letter[0]
    if word == "news":
        return f"news {show_numbered_piece(letter[1:])}"
    if word == "here":
        return f"here {letter[1]} {show_way(letter[2])}"
    if word == "kept":
        pieces = [f" | {show_numbered_piece(numbered)}" for numbered in letter[4]]
        return f"kept {letter[1]} {show_way(letter[2])} {show_marks(letter[3])}" + "".join(pieces)
    return f"{word} {show_wish(letter[1])}"


def show_deed(deed):
    if not is_deed(deed):
        raise NoDeed("what was handed in is no deed")
    kinds = DEED_PARTS[deed[0]]
    return " ".join([deed[0]] + [show_part(kind, part) for kind, part in zip(kinds, deed[1:])])


def read_wish(text):
    check_text(text)
    wish = tuple([wish_part_in(word) for word in words_in(text)])
    check_written(is_wish(wish))
    return wish


def read_piece(text):
    check_text(text)
    piece = tuple([piece_part_in(word) for word in words_in(text)])
    check_written(is_piece(piece))
    return piece


def read_letter(text):
    check_text(text)
    word, blank, rest = text.partition(" ")
    check_written(word in READERS)
    reader = READERS[word]
    letter = (word,) + reader(rest)
    check_written(is_letter(letter))
    return letter


def read_deed(text):
    check_text(text)
    word = text.partition(" ")[0]
    check_written(word in DEED_PARTS)
    return (word,) + parts_in(text, DEED_PARTS[word], MOST_FIGURES)


def check_written(holds):
    if not holds:
        raise NoText("this writes nothing")


def check_text(thing):
    check_written(isinstance(thing, str))


# How the parts of what is known to be right are written.


def show_end(number):
    return "*" if number is None else str(number)


def show_way(way):
    return "-".join([str(post) for post in way])


def show_marks(marks):
    return ",".join([f"{teller}:{number}" for teller, number in marks]) if marks else "-"


def show_numbered_piece(numbered):
    teller, number, piece = numbered
    return f"{teller} {number} {show_piece(piece)}"


def show_part(kind, part):
    if kind == "wish":
        return show_wish(part)
    return show_piece(part) if kind == "piece" else str(part)


# How the parts of a text are read; what writes none is refused with NoText, also where nothing stands behind a sign.


def words_in(text):
    """The words of a wish or piece, each of one field."""
    return [] if text == "-" else text.split(" ")


def count_in(text, most):
    """A whole number from 0 on, of so many figures at most."""
    check_written(1 <= len(text) <= most and all(["0" <= sign <= "9" for sign in text]))
    check_written(text == "0" or text[0] != "0")
    return int(text)


def number_in(text):
    if not text.startswith("-"):
        return count_in(text, MOST_FIGURES)
    check_written(text != "-0")
    return -count_in(text[1:], MOST_FIGURES)


def end_in(text):
    return None if text == "*" else number_in(text)


def wish_part_in(text):
    field, colon, span = text.partition(":")
    low, dots, high = span.partition("..")
    return (field, end_in(low), end_in(high))


def piece_part_in(text):
    field, colon, number = text.partition(":")
    return (field, number_in(number))


def way_in(text):
    return tuple([count_in(post, MOST_FIGURES) for post in text.split("-")])


def mark_in(text):
    teller, colon, number = text.partition(":")
    return (count_in(teller, MOST_FIGURES), count_in(number, MOST_FIGURES))


def marks_in(text):
    return tuple([mark_in(mark) for mark in text.split(",")]) if text != "-" else ()


def numbered_piece_in(text):
    words = text.split(" ", 2)
    check_written(len(words) == 3)
    return (count_in(words[0], MOST_FIGURES), count_in(words[1], MOST_FIGURES), read_piece(words[2]))


def want_in(text):
    return (read_wish(text),)


def here_in(text):
    words = text.split(" ")
    check_written(len(words) == 2)
    return (words[0], way_in(words[1]))


def kept_in(text):
    first, *pieces = text.split(" | ")
    words = first.split(" ")
    check_written(len(words) == 3)
    return (words[0], way_in(words[1]), marks_in(words[2]), tuple([numbered_piece_in(piece) for piece in pieces]))


READERS = {
    "want": want_in,
    "unwant": want_in,
    "news": numbered_piece_in,
    "here": here_in,
    "kept": kept_in,
}


def parts_in(text, kinds, most):
    """What stands behind the first word of a row of words, part by part, numbers of so many figures at most."""
    # The last part may have blanks in it; where nothing may stand behind the first word, no blank may, either.
    words = text.split(" ", max(1, len(kinds)))
    check_written(len(words) == 1 + len(kinds))
    return tuple([part_in(kind, word, most) for kind, word in zip(kinds, words[1:])])


def part_in(kind, text, most):
    if kind == "hand":
        check_written(is_name(text))
        return text
    if kind == "post":
        return count_in(text, most)
    return read_wish(text) if kind == "wish" else read_piece(text)

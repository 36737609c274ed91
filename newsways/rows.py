"""Rows of words: what is said at the desk."""

from newsways.errors import NoRow, NoText
from newsways.runs import DEED_PARTS
from newsways.texts import check_written, count_in, parts_in

MOST_FIGURES = 9

# What stands behind the first word of a row that is no deed and no web, by the word.
ASKED_PARTS = {
    "rest": (),
    "where": ("hand",),
    "got": ("hand",),
    "wishes": ("hand",),
    "known": ("post", "post"),
    "said": ("post", "post"),
    "lying": (),
    "first": ("post", "post"),
    "hands": (),
    "missing": (),
}


def read_row(row):
    """The first word of the row and what stands behind it, as a tuple."""
    if not isinstance(row, str):
        raise NoRow("a row is a text")
    word = row.partition(" ")[0]
    try:
        return (word,) + parts_of_row(word, row)
    except NoText:
        raise NoRow("this is no row of words that is known here") from None


def parts_of_row(word, row):
    """What stands behind the first word of the row; NoText where the row is none."""
    if word == "web":
        return tuple([count_in(number, MOST_FIGURES) for number in row.split(" ")[1:]])
    if word in DEED_PARTS:
        return parts_in(row, DEED_PARTS[word], MOST_FIGURES)
    check_written(word in ASKED_PARTS)
    return parts_in(row, ASKED_PARTS[word], MOST_FIGURES)

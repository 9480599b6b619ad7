"""Rows of a desk: which there are, and the words that they are parted into."""

from anydelay.errors import NoRow
from anydelay.nets import is_name

# What stands behind each first word. A TEXT is always the last, and all that is left.
FORMS = {"net": ("NAME", "TEXT"), "sheet": ("NAME", "TEXT"), "make": ("NAME", "NAME"), "put": ("NAME", "NAME", "NAME"),
         "drop": ("NAME",), "rests": ("NAME", "STANDING"), "race": ("NAME", "STANDING"), "one": ("NAME", "STANDING"),
         "keeps": ("NAME", "STANDING", "NAME"), "nodes": ("NAME",), "clashes": ("NAME",), "show": ("NAME",),
         "names": ()}


def is_part(kind, word):
    if kind == "NAME":
        return is_name(word)
    return kind == "TEXT" or len(word) > 0


def has_form(form, words):
    return len(words) == len(form) and all([is_part(kind, word) for kind, word in zip(form, words)])


def row_parted(row):
    # A tuple of the first word and a list of the others.
    if not isinstance(row, str):
        raise NoRow("a row is a text")
    first = row.split(" ")[0]
    form = FORMS.get(first)
    if form is None:
        raise NoRow("no row begins with this word")
    words = row.split(" ", len(form)) if "TEXT" in form else row.split(" ")
    if not has_form(form, words[1:]):
        raise NoRow("behind the first word there is not what this row asks for")
    return (first, words[1:])

"""Rows of text that tell deeds, read and shown."""

from frameland.errors import NoRow

FIGURES = "0123456789"
MOST_FIGURES = 60
# By the number that they are: 1 for reading and 2 for writing, summed.
RIGHTS = ("--", "r-", "-w", "rw")
# A first word, and the kinds of the words behind it.
FORMS = (
    ("new",),
    ("fork", "number"),
    ("end", "number"),
    ("bank", "number"),
    ("drop", "number"),
    ("lay", "number", "number", "number", "rights"),
    ("lay", "number", "number", "number", "rights", "number", "number"),
    ("lift", "number", "number", "number"),
    ("guard", "number", "number", "number", "rights"),
    ("read", "number", "number"),
    ("write", "number", "number", "value"),
    ("fold",),
    ("see", "number", "number"),
    ("laid", "number"),
    ("live",),
)
# What a deed of laying without a bank has in the place of the bank and the start.
NO_BANK = (None, 0)


def form_of(first_word, length):
    for form in FORMS:
        if form[0] == first_word and len(form) == length:
            return form
    raise NoRow("there is no such deed")


def is_number(word):
    if len(word) < 1 or len(word) > MOST_FIGURES:
        return False
    if word[0] == "0" and len(word) > 1:
        return False
    return all([sign in FIGURES for sign in word])


def read_number(word):
    if not is_number(word):
        raise NoRow("there is a number that is none")
    return int(word)


def read_value(word):
    if not word.startswith("-"):
        return read_number(word)
    number = read_number(word[1:])
    if number == 0:
        raise NoRow("nought has no sign")
    return 0 - number


def read_rights(word):
    if word not in RIGHTS:
        raise NoRow("there are rights that are none")
    return RIGHTS.index(word)


def show_rights(rights):
    return RIGHTS[rights]


def read_word(kind, word):
    if kind == "rights":
        return read_rights(word)
    if kind == "value":
        return read_value(word)
    return read_number(word)


def show_word(kind, part):
    return show_rights(part) if kind == "rights" else str(part)


def read_row(text):
    # Only a single blank parts words: where there is another one, some word is empty, and no form has such a word.
    words = text.split(" ")
    form = form_of(words[0], len(words))
    deed = (words[0],) + tuple([read_word(kind, word) for kind, word in zip(form[1:], words[1:])])
    if deed[0] == "lay" and len(deed) == 5:
        return deed + NO_BANK
    return deed


def show_row(deed):
    parts = deed
    if deed[0] == "lay" and deed[5] is None:
        parts = deed[:5]
    form = form_of(parts[0], len(parts))
    return " ".join([parts[0]] + [show_word(kind, part) for kind, part in zip(form[1:], parts[1:])])

"""Deeds: how they are written and read, and what each of them asks, tells and leads to."""

from skewhouse.errors import NoDeed, NoNumber
from skewhouse.words import is_letter, number_of, operand_of, show_parts, worth

MOST_SKIPPED = 40
SIGNS = ("+", "-")

# Under the word of each deed: of what kind its other parts are, in their order.
FORMS = {
    "read": ("letter", "operand"),
    "sum": ("letter", "operand", "operand"),
    "count": ("letter", "operand", "operand"),
    "put": ("operand", "operand"),
    "take": ("operand",),
    "let": ("letter", "operand", "sign", "operand"),
    "skip": ("operand", "operand", "skipped"),
    "stop": ("operand", "operand"),
}


def letter_of(text):
    if not is_letter(text):
        raise NoDeed(f"{text!r} is no letter")
    return text


def sign_of(text):
    if text not in SIGNS:
        raise NoDeed(f"{text!r} is neither + nor -")
    return text


def skipped_of(text):
    many = number_of(text)
    if many < 1 or many > MOST_SKIPPED:
        raise NoDeed(f"{text!r} deeds can't be passed over")
    return many


def part_of(kind, text):
    if kind == "letter":
        return letter_of(text)
    if kind == "sign":
        return sign_of(text)
    if kind == "skipped":
        return skipped_of(text)
    return operand_of(text)


def read_deed(text):
    # Parted at single blanks, so that each blank too many leaves an empty part, which has no form.
    written = text.split(" ")
    kinds = FORMS.get(written[0])
    if kinds is None or len(written) != len(kinds) + 1:
        raise NoDeed(f"{text!r} has not the form of a deed")
    try:
        parts = [part_of(kind, part) for kind, part in zip(kinds, written[1:])]
    except NoNumber as refusal:
        raise NoDeed(f"{text!r} has a part that is no operand or number") from refusal
    return tuple([written[0]] + parts)


def show_deed(deed):
    return show_parts(deed)


def asked(deed, names):
    low = worth(deed[2], names)
    if deed[0] == "read":
        return (low, low)
    return (low, worth(deed[3], names))


def told(deed, rows):
    values = [row[1] for row in rows]
    if deed[0] == "count":
        return len(values)
    if deed[0] == "sum":
        return sum(values)
    return values[0] if values else 0


def let_of(deed, names):
    left = worth(deed[2], names)
    right = worth(deed[4], names)
    return left + right if deed[3] == "+" else left - right


def under(deed, names):
    return worth(deed[1], names) < worth(deed[2], names)


def following(deed, place, names, many):
    passed = 0
    if deed[0] == "skip" and under(deed, names):
        passed = deed[3]
    return min(place + 1 + passed, many)

"""Written numbers, letters, operands, names, and the words of the levels."""

from skewhouse.errors import NoNumber

FIGURES = "0123456789"
MOST_FIGURES = 30
LEVEL_WORDS = ("loose", "kept", "make", "watch", "hold")


def is_whole(thing):
    # Python counts True and False among its ints; here they are no numbers.
    return isinstance(thing, int) and not isinstance(thing, bool)


def is_written_number(text):
    if text == "0":
        return True
    figures = text[1:] if text.startswith("-") else text
    if figures == "" or figures[0] == "0" or len(figures) > MOST_FIGURES:
        return False
    return all([sign in FIGURES for sign in figures])


def number_of(text):
    # The form is asked for first: int alone also takes blanks, `+1`, `1_0` and `007`.
    if not is_written_number(text):
        raise NoNumber(f"{text!r} is no written number")
    return int(text)


def written(number):
    # In parts, because str refuses numbers of some thousand figures, and those that come up may have as many.
    rest = abs(number)
    parts = []
    while rest >= 10 ** 64:
        parts.append(str(rest % 10 ** 64).zfill(64))
        rest = rest // 10 ** 64
    parts.append(str(rest))
    sign = "-" if number < 0 else ""
    return sign + "".join(reversed(parts))


def show_parts(parts):
    return " ".join([part if isinstance(part, str) else written(part) for part in parts])


def is_letter(text):
    return len(text) == 1 and "a" <= text <= "z"


def operand_of(text):
    if is_letter(text):
        return text
    return number_of(text)


def worth(operand, names):
    if is_whole(operand):
        return operand
    return names.get(operand, 0)


def is_level(word):
    return word in LEVEL_WORDS

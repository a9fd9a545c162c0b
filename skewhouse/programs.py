"""Programs: a level word and a list of deeds, how they are written and read."""

from skewhouse.deeds import read_deed, show_deed
from skewhouse.errors import NoProgram
from skewhouse.words import is_level

MOST_DEEDS = 40


def parts_of(text):
    if text == "":
        return []
    if not text.startswith(" "):
        raise NoProgram(f"{text!r} stands behind the `:` without a blank")
    parts = text[1:].split("; ")
    if len(parts) > MOST_DEEDS:
        raise NoProgram(f"{text!r} has too many deeds")
    return parts


def read_program(text):
    halves = text.partition(":")
    if halves[1] == "" or not is_level(halves[0]):
        raise NoProgram(f"{text!r} has no level word and `:` at its begin")
    # All parts are told ahead of the first deed that is read: NoProgram is due ahead of NoDeed.
    parts = parts_of(halves[2])
    return (halves[0], [read_deed(part) for part in parts])


def show_program(program):
    word = program[0]
    if len(program[1]) == 0:
        return f"{word}:"
    written = "; ".join([show_deed(deed) for deed in program[1]])
    return f"{word}: {written}"

"""Spans: what of a dealing can close a ring about one at watch, and which spans are let in."""

from skewhouse.errors import Broken
from skewhouse.stretches import inside


class Span:

    def __init__(self, number, watched, begin, end, looks, puts):
        self.number = number
        self.watched = watched
        self.begin = begin
        self.end = end
        self.looks = list(looks)
        self.puts = list(puts)


def passes_by(look, key, end):
    # A look is (stand, low, high, own).
    return look[0] < end and inside(key, look[1], look[2]) and key not in look[3]


def older(one, other):
    if one.number == other.number:
        return None
    # The puts rise, so the first key found is the least.
    for key in other.puts:
        for look in one.looks:
            if passes_by(look, key, other.end):
                return key
    return None


def first_one(spans, mid):
    for span in spans:
        if span.end > mid.begin and older(span, mid) is not None:
            return span
    return None


def first_other(spans, mid):
    for span in spans:
        if span.end < mid.end and older(mid, span) is not None:
            return span
    return None


def closing(kept, new):
    spans = sorted(kept + [new], key=lambda span: span.number)
    for mid in [span for span in spans if span.watched]:
        # Where mid is a kept one, only the new span may be one: threes of kept ones alone are not looked at.
        one = first_one(spans if mid.number == new.number else [new], mid)
        other = None if one is None else first_other(spans, mid)
        if other is not None:
            return (one.number, older(one, mid), mid.number, older(mid, other), other.number)
    return None


def let_in(kept, new):
    three = closing(kept, new)
    if three is not None:
        raise Broken(new.number, ("edges",) + three)
    return kept + [new]


def early(span, kept):
    return span.watched and first_other(kept, span) is not None


def stand_of(span, kept):
    return span.begin if early(span, kept) else span.end

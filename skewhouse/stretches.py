"""Stretches of keys, and drafts laid over the rows of a stretch."""


def inside(key, low, high):
    return low <= key <= high


def meet(low, high, other_low, other_high):
    # What both have is a stretch again, and an empty one where either of them is empty.
    return max(low, other_low) <= min(high, other_high)


def laid(rows, drafts, low, high):
    values = dict([row for row in rows if inside(row[0], low, high)])
    for key, value in drafts.items():
        if inside(key, low, high):
            values[key] = value
    # 0 is a value like any other; only None says that there is no row.
    return [(key, values[key]) for key in sorted(values) if values[key] is not None]

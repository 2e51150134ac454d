"""Lengths of short codes, made of counts by joining groups of signs."""

from tornpictures.wholes import is_whole


def joinings(counts):
    """The paper: the groups that are joined, turn by turn, as tuples (one, other) of their signs."""
    # Groups have no sign in common: sorted with their signs behind the sum, they go by the least one.
    groups = sorted([(count, (sign,)) for sign, count in counts])
    told = []
    while len(groups) > 1:
        (less, one), (more, other), *rest = groups
        told.append((one, other))
        groups = sorted([*rest, (less + more, tuple(sorted(one + other)))])
    return told


def lengths(counts):
    """The lengths of the codes, as tuples (sign, length) by signs."""
    if len(counts) == 1:
        return [(counts[0][0], 1)]
    often = {sign: 0 for sign, count in counts}
    for one, other in joinings(counts):
        for sign in one + other:
            often[sign] += 1
    return [(sign, often[sign]) for sign, count in counts]


def is_group(thing):
    return isinstance(thing, tuple) and all([is_whole(part) for part in thing])


def is_joining(thing):
    return isinstance(thing, tuple) and len(thing) == 2 and is_group(thing[0]) and is_group(thing[1])


def lets_joinings(counts, thing):
    """Whether whatever thing is the paper."""
    # Python takes truths as equal to 0 and 1, so the kinds are asked ahead of the values.
    if not isinstance(thing, list) or not all([is_joining(part) for part in thing]):
        return False
    return thing == joinings(counts)

"""Templates laid on patterns: what stands in the place of their holes, and how a use of the form tells it."""

from formstead.leading import led_pattern
from formstead.patterns import free_in, is_leaf


def lying_in_holes(words, template, pattern):
    """What stands in the place of a template's holes if it is laid on a pattern; None if something else differs.

    Each hole is told as a row (HOLE, OUTWARD, PLACE, PART), OUTWARD being the number of the template's own binders
    there; the rows are in the order of the holes' numbers.
    """
    rows, due = [], [(template, pattern, 0, ())]
    while due:
        told, here, outward, place = due.pop()
        if told[0] == "hole":
            rows.append((told, outward, place, here))
        elif is_leaf(told):
            if told != here:
                return None
        elif told[0] != here[0]:
            return None
        else:
            due.extend([
                (part, here[1 + index], outward + many, place + (index,))
                for index, (part, many) in enumerate(zip(told[1:], words[told[0]]))
            ])
    return sorted(rows, key=lambda row: row[0][1])


def is_seen(hole, outward, k):
    """Whether what stands in the place of a hole may name K: no binder of the template but those that it is told."""
    return k >= outward or k in hole[2:]


def ways_back(hole, outward):
    """The ways and the number by which what stands in the place of a hole is led to be the part of a use."""
    told = hole[2:]
    ways = [len(told) - 1 - told.index(k) if k in told else 0 for k in range(outward)]
    return (tuple(ways), len(told))


def use_standing(words, form, part):
    """The use of a form that may be written for a part; None if the form does not stand there."""
    rows = lying_in_holes(words, form[2], part)
    if rows is None:
        return None
    parts = []
    for hole, outward, _, thing in rows:
        if not all([is_seen(hole, outward, k) for k in free_in(words, thing)]):
            return None
        ways, by = ways_back(hole, outward)
        parts.append(led_pattern(words, thing, ways, by))
    return (form[0], *parts)

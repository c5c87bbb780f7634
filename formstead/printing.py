"""Texts of sources and of own forms made."""

from formstead.patterns import is_leaf, names_begin, nodes


def names_in_print(words, source):
    """The names of a print, those of boxes and bound ones, in the order of the text."""
    boxes, term = source
    names = []
    for number, box in enumerate(boxes):
        names.append(f"b{number + 1}")
        names.extend(bound_names_in_print(words, box))
    return names + bound_names_in_print(words, term)


def bound_names_in_print(words, part):
    """The names that are bound in the print of a closed part."""
    names = []
    for _, fresh, outward, _ in nodes(words, part):
        names.extend([f"x{1 + d}" for d in range(outward - fresh, outward)])
    return names


def shared_out(words, source, names):
    """Names in the order of the text as a pair: those of the boxes; for each box, and the term, those bound there."""
    box_names, bound, used = [], [], 0
    for box in source[0]:
        many = sum([row[1] for row in nodes(words, box)])
        box_names.append(names[used])
        bound.append(names[used + 1:used + 1 + many])
        used += 1 + many
    bound.append(names[used:])
    return (box_names, bound)


def named_parts(words, source, bound):
    """The rows of each box and of the term, as named_rows tells them."""
    parts = (*source[0], source[1])
    return [named_rows(words, part, names) for part, names in zip(parts, bound)]


def named_rows(words, part, names):
    """The nodes of a closed part as (NODE, TOLD, SEEN, DEPTH).

    TOLD are the names that are told right ahead of the node, SEEN those that are seen there, the nearest last.
    """
    rows, seen, used = [], [], 0
    for node, fresh, outward, depth in nodes(words, part):
        told = names[used:used + fresh]
        used += fresh
        seen = seen[:outward - fresh] + told
        rows.append((node, told, seen, depth))
    return rows


def is_captured(words, source, names):
    """Whether the text with these names, a list, would not read as the source again."""
    box_names, bound = shared_out(words, source, names)
    if len(set(box_names)) != len(box_names):
        return True
    rows = [row for part in named_parts(words, source, bound) for row in part]
    return any([is_leaf_captured(row[0], row[2], box_names) for row in rows])


def is_leaf_captured(leaf, seen, box_names):
    """Whether a nearer name hides the one that a leaf means."""
    if leaf[0] == "at":
        return box_names[leaf[1]] in seen
    if leaf[0] != "name":
        return False
    at = len(seen) - 1 - leaf[1]
    return seen[at] in seen[at + 1:]


def printed(words, source, names):
    """The text of a source with these names, a list, in the order of the text."""
    box_names, bound = shared_out(words, source, names)
    parts = [tokens_of_part(rows, box_names) for rows in named_parts(words, source, bound)]
    tokens = []
    for name, part in zip(box_names, parts):
        tokens.extend([name] + part)
    tokens.extend(parts[-1])
    if box_names:
        tokens = ["(", "boxes"] + tokens + [")"]
    return joined(tokens)


def tokens_of_part(rows, box_names):
    """The tokens of the text of a part."""
    tokens, still_open = [], 0
    for node, told, seen, depth in rows:
        tokens.extend([")"] * (still_open - (depth - 1)) + told)
        if is_leaf(node):
            tokens.append(token_of_leaf(node, seen, box_names))
            still_open = depth - 1
        else:
            tokens.extend(["(", node[0]])
            still_open = depth
    return tokens + [")"] * still_open


def token_of_leaf(leaf, seen, box_names):
    """The text that stands for a leaf: a numeral, a name, or a hole in brackets."""
    if leaf[0] == "number":
        return str(leaf[1])
    if leaf[0] == "at":
        return box_names[leaf[1]]
    names = [seen[len(seen) - 1 - k] for k in leaf[names_begin(leaf):]]
    return names[0] if leaf[0] == "name" else text_of_hole(leaf[1], names)


def text_of_hole(number, names):
    """The text of a hole, told or standing in a template, with these names."""
    return "(" + " ".join([f"h{number + 1}"] + names) + ")"


def printed_form(words, form):
    """The text of an own form; the words are those of its book."""
    word, names, template = form
    holes = [text_of_hole(number, ["x1", "x2"][:many]) for number, many in enumerate(names)]
    rows = named_rows(words, template, bound_names_in_print(words, template))
    return joined(["(", "form", word] + holes + tokens_of_part(rows, []) + [")"])


def joined(tokens):
    """The text of these tokens, with one blank between two of them but beside brackets."""
    return " ".join(tokens).replace("( ", "(").replace(" )", ")")

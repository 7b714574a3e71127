"""Trees that tell lots of places; they are walked without recursion, as they may grow deep."""

from drawarms.rounds import is_row, round_from

MOST_PARTS = 8
MOST_ROWS = 24
MOST_LEVELS = 6


def _is_leaf(value):
    if value[0] == "all":
        return len(value) == 1
    return value[0] in ("side", "rim") and len(value) == 2 and is_row(value[1])


def _is_branch(value):
    if len(value) != 2:
        return False
    if value[0] == "not":
        return True
    return value[0] in ("and", "or") and isinstance(value[1], tuple) and 1 <= len(value[1]) <= MOST_PARTS


def _parts(tree):
    return (tree[1],) if tree[0] == "not" else tree[1]


def _is_node(value):
    return isinstance(value, tuple) and len(value) > 0 and isinstance(value[0], str)


def rows_of_tree(value, levels=None):
    """The rows of a tree, of at most so many levels if these are told; None for what is no such tree."""
    rows, depth = [], 0
    level = [value]
    while level and depth != levels:
        deeper = []
        for node in level:
            if not _is_node(node):
                return None
            if _is_leaf(node):
                rows.extend(node[1:])
            elif _is_branch(node):
                deeper.extend(_parts(node))
            else:
                return None
        level, depth = deeper, depth + 1
    return None if level else rows


def is_tree(value):
    """Whether a value is a tree within the limits of sides and of depth."""
    rows = rows_of_tree(value, MOST_LEVELS)
    return rows is not None and len(rows) <= MOST_ROWS


def tree_rounds(tree):
    """The ascending tuple of the different rounds of a tree, however deep it is."""
    return tuple(sorted({round_from(row) for row in rows_of_tree(tree)}))


def _leaf_holds(leaf, sides):
    if leaf[0] == "all":
        return True
    row = leaf[1]
    circle = round_from(row)
    side = sides[circle] if row == circle else -sides[circle]
    return side == 0 or (leaf[0] == "side" and side > 0)


def _branch_holds(word, held):
    if word == "not":
        return not held[0]
    return all(held) if word == "and" else any(held)


def tree_holds(tree, sides):
    """Whether a place is in the lot of a tree; `sides` has, for each round, the sign of its value there."""
    todo = [(tree, False)]
    held = []
    while todo:
        node, are_parts_done = todo.pop()
        if node[0] in ("all", "side", "rim"):
            held.append(_leaf_holds(node, sides))
        elif are_parts_done:
            start = len(held) - len(_parts(node))
            held[start:] = [_branch_holds(node[0], held[start:])]
        else:
            todo.append((node, True))
            todo.extend([(part, False) for part in _parts(node)])
    return held[0]

"""Writing: plans as texts, shown and read."""

from eggfloors.cases import MOST_TREE_FLOORS
from eggfloors.errors import BadLine

FIGURES = "0123456789"
SIGNS = "=(,)"


def shown(tree):
    floor = tree[1]
    if tree[0] == "told":
        return f"={floor}"
    broken = shown(tree[2])
    whole = shown(tree[3])
    return f"{floor}({broken},{whole})"


# Without recursion, as a text may hold more brackets than calls may stand within one another. What is held is the text
# so far, with each tree of it made as soon as its last piece is there; a piece out of place is never taken up.
def read(text):
    held = []
    for piece in pieces_of(text):
        held.append(piece)
        make_last(held)
    if forms(held) != "t":
        raise BadLine("the text isn't one plan")
    return held[0]


def make_last(held):
    if forms(held[-2:]) == "=n":
        replace_last(held, 2, ("told", held[-1]))
    elif forms(held[-6:]) == "n(t,t)":
        replace_last(held, 6, ("drop", held[-6], held[-4], held[-2]))


def replace_last(held, many, tree):
    for gone in range(many):
        held.pop()
    held.append(tree)


# One letter a piece: t for a tree, n for a number; a sign stands for itself.
def forms(pieces):
    return "".join([form_of(piece) for piece in pieces])


def form_of(piece):
    if isinstance(piece, tuple):
        return "t"
    if isinstance(piece, int):
        return "n"
    return piece


def pieces_of(text):
    pieces = []
    figures = ""
    for sign in text:
        if sign in FIGURES:
            figures = figures + sign
        elif sign in SIGNS:
            add_number(pieces, figures)
            figures = ""
            pieces.append(sign)
        else:
            raise BadLine(f"no plan is written with {sign!r}")
    add_number(pieces, figures)
    return pieces


def add_number(pieces, figures):
    if figures != "":
        pieces.append(number_of(figures))


# The length is asked first, so that no number is made of a text full of figures.
def number_of(figures):
    if figures.startswith("0") and figures != "0":
        raise BadLine(f"a nought ahead: {figures}")
    if len(figures) > len(str(MOST_TREE_FLOORS)) or int(figures) > MOST_TREE_FLOORS:
        raise BadLine(f"numbers go to {MOST_TREE_FLOORS}, not {figures}")
    return int(figures)

"""Shows programs as texts (point 7) and counts parts."""

from fieldgate.forms import MARKS, inner


# How many parts a part has, itself among them.
def parts(part):
    return 1 + sum([parts(within) for within in inner(part)])


def kind_pieces(kind):
    pieces = [kind[0]]
    for within in kind[1:]:
        pieces.extend(kind_pieces(within))
    return pieces


# What stands behind a part's word ahead of the parts within it.
def pieces_ahead(part):
    if part[0] == "nil":
        return kind_pieces(part[1])
    if part[0] in ("let", "call"):
        return [part[1]]
    return []


def part_pieces(part):
    if part[0] in ("number", "name"):
        return [str(part[1])]
    pieces = ["(", part[0]] + pieces_ahead(part)
    for within in inner(part):
        pieces.extend(part_pieces(within))
    return pieces + [")"]


def taker_pieces(takers):
    pieces = []
    for taker in takers:
        if pieces != []:
            pieces.append(",")
        pieces.append(taker[0])
        pieces.extend(kind_pieces(taker[1]))
    return pieces


def function_pieces(function):
    ahead = ["fun", function[0], "("] + taker_pieces(function[1]) + [")"]
    return ahead + kind_pieces(function[2]) + ["="] + part_pieces(function[3])


# A blank stands only where it must: a program that was read from 4000 signs
# has to be shown in no more of them.
def joined(pieces):
    text = ""
    after_mark = True
    for piece in pieces:
        mark = piece in MARKS
        if not after_mark and not mark:
            text = text + " "
        text = text + piece
        after_mark = mark
    return text


def shown(program):
    return ";".join([joined(function_pieces(function)) for function in program])

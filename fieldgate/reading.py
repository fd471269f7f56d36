"""Reads texts and tells the programs that they hold (points 4 and 5)."""

from fieldgate.errors import NoText
from fieldgate.forms import KEPT, MARKS, PARTS_BEHIND
from fieldgate.kinds import look_over
from fieldgate.showing import parts

LETTERS = "abcdefghijklmnopqrstuvwxyz"
FIGURES = "0123456789"

MOST_SIGNS = 4000
MOST_PARTS = 120
MOST_BRACKETS = 10
MOST_KIND_WORDS = 7
MOST_FUNCTIONS = 6
MOST_TAKERS = 4
MOST_GIVEN = 4
MOST_LETTERS = 8
MOST_FIGURES = 30


# The pieces of a text, and how many of them are taken by now.
class Pieces:
    def __init__(self, pieces):
        self.pieces = pieces
        self.taken = 0

    # Behind the last piece stands "", which is like no piece.
    def peek(self):
        if self.taken < len(self.pieces):
            return self.pieces[self.taken]
        return ""

    def take(self):
        piece = self.peek()
        self.taken = self.taken + 1
        return piece

    def want(self, wanted):
        piece = self.take()
        if piece != wanted:
            raise NoText(f"{piece!r} stands where {wanted!r} is wanted")


# Marks, and what stands between marks, blanks and line feeds. Whether that is a word or a number,
# or of other signs, is asked where it is taken: each piece is taken, or the text refused ahead of it.
def pieces_of(text):
    spaced = text.replace("\n", " ")
    for mark in MARKS:
        spaced = spaced.replace(mark, f" {mark} ")
    return [piece for piece in spaced.split(" ") if piece != ""]


def all_among(piece, signs):
    return all([sign in signs for sign in piece])


def is_name(piece):
    return 1 <= len(piece) <= MOST_LETTERS and all_among(piece, LETTERS) and piece not in KEPT


def is_number(piece):
    figures = piece[1:] if piece.startswith("-") else piece
    if not 1 <= len(figures) <= MOST_FIGURES or not all_among(figures, FIGURES):
        return False
    return not figures.startswith("0") or piece == "0"


# Asked ahead of all reading of parts, so that no text leads deeper than the bound.
def want_few_brackets(pieces):
    depth = 0
    for piece in pieces:
        if piece == "(":
            depth = depth + 1
        if piece == ")":
            depth = depth - 1
        if depth > MOST_BRACKETS:
            raise NoText(f"more than {MOST_BRACKETS} brackets are open")


def want_few_parts(program):
    if sum([parts(function[3]) for function in program]) > MOST_PARTS:
        raise NoText(f"more than {MOST_PARTS} parts")


def read_name(pieces):
    piece = pieces.take()
    if not is_name(piece):
        raise NoText(f"{piece!r} is no name")
    return piece


# The words of one kind; it is whole when as many kinds have come as were wanted.
def kind_words(pieces):
    words = []
    wanted = 1
    while wanted > 0:
        word = pieces.take()
        if word not in ("num", "list", "pair"):
            raise NoText(f"{word!r} is no word of a kind")
        words.append(word)
        if len(words) > MOST_KIND_WORDS:
            raise NoText(f"a kind of more than {MOST_KIND_WORDS} words")
        if word == "num":
            wanted = wanted - 1
        if word == "pair":
            wanted = wanted + 1
    return words


# Made from the last word on, so that the kinds within are there ahead of those around them.
def read_kind(pieces):
    made = []
    for word in reversed(kind_words(pieces)):
        kind = (word,)
        if word in ("list", "pair"):
            kind = kind + (made.pop(),)
        if word == "pair":
            kind = kind + (made.pop(),)
        made.append(kind)
    return made.pop()


def read_form(pieces):
    word = pieces.take()
    if word == "nil":
        return (word, read_kind(pieces))
    if word == "let":
        return (word, read_name(pieces), read_part(pieces), read_part(pieces))
    if word == "call":
        return (word, read_name(pieces)) + read_given(pieces)
    if word not in PARTS_BEHIND:
        raise NoText(f"no part begins with {word!r}")
    return (word,) + tuple([read_part(pieces) for turn in range(PARTS_BEHIND[word])])


# The parts of a call.
def read_given(pieces):
    given = []
    while pieces.peek() != ")":
        given.append(read_part(pieces))
    if len(given) > MOST_GIVEN:
        raise NoText(f"a call of more than {MOST_GIVEN} parts")
    return tuple(given)


def read_part(pieces):
    piece = pieces.take()
    if piece == "(":
        part = read_form(pieces)
        pieces.want(")")
        return part
    if is_number(piece):
        return ("number", int(piece))
    if is_name(piece):
        return ("name", piece)
    raise NoText(f"{piece!r} stands where a part is wanted")


def read_taker(pieces):
    name = read_name(pieces)
    return (name, read_kind(pieces))


def read_takers(pieces):
    pieces.want("(")
    takers = []
    if pieces.peek() != ")":
        takers.append(read_taker(pieces))
    while pieces.peek() == ",":
        pieces.want(",")
        takers.append(read_taker(pieces))
    pieces.want(")")
    if len(takers) > MOST_TAKERS:
        raise NoText(f"more than {MOST_TAKERS} takers")
    return takers


def read_function(pieces):
    pieces.want("fun")
    name = read_name(pieces)
    takers = read_takers(pieces)
    kind = read_kind(pieces)
    pieces.want("=")
    return (name, takers, kind, read_part(pieces))


def read_functions(pieces):
    program = [read_function(pieces)]
    while pieces.peek() == ";":
        pieces.want(";")
        program.append(read_function(pieces))
    pieces.want("")
    if len(program) > MOST_FUNCTIONS:
        raise NoText(f"more than {MOST_FUNCTIONS} functions")
    return program


def read(text):
    if not isinstance(text, str):
        raise NoText("no text")
    if len(text) > MOST_SIGNS:
        raise NoText(f"more than {MOST_SIGNS} signs")
    pieces = pieces_of(text)
    want_few_brackets(pieces)
    program = read_functions(Pieces(pieces))
    want_few_parts(program)
    look_over(program)
    return program

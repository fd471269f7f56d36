"""Finds the kinds of parts and looks whether a program's names and kinds fit (points 5 and 6)."""

from fieldgate.errors import NoKind, NoName, Twice
from fieldgate.forms import inner

NUM = ("num",)


# The function of a program that bears a name.
def function_called(program, name):
    for function in program:
        if function[0] == name:
            return function
    raise NoName(f"no function is called {name}")


# Kinds are never written out in a refusal: pairs of the same in both halves, again and again,
# make kinds of a length that no text could hold.
def want_kind(kind, wanted):
    if kind != wanted:
        raise NoKind("one kind stands where another one is wanted")


# A kind that must be a list or a pair; of what, is left open.
def want_made_by(kind, word):
    if kind[0] != word:
        raise NoKind(f"another kind stands where a {word} is wanted")


def kind_of_call(program, name, kinds):
    function = function_called(program, name)
    want_kind(kinds, [taker[1] for taker in function[1]])
    return function[2]


def kind_of_pair_word(word, kinds):
    if word == "pair":
        return ("pair", kinds[0], kinds[1])
    want_made_by(kinds[0], "pair")
    if word == "first":
        return kinds[0][1]
    return kinds[0][2]


def kind_of_list_word(word, kinds):
    if word == "cons":
        want_kind(kinds[1], ("list", kinds[0]))
        return kinds[1]
    want_made_by(kinds[0], "list")
    if word == "head":
        return kinds[0][1]
    if word == "tail":
        return kinds[0]
    return NUM


# The kind of a part whose word has nothing but parts behind it, by their kinds.
def kind_of_word(word, kinds):
    if word in ("pair", "first", "second"):
        return kind_of_pair_word(word, kinds)
    if word in ("cons", "head", "tail", "none"):
        return kind_of_list_word(word, kinds)
    want_kind(kinds[0], NUM)
    if word == "if":
        want_kind(kinds[2], kinds[1])
        return kinds[1]
    want_kind(kinds[1], NUM)
    return NUM


def kind_of_let(program, names, part):
    # A copy: the names handed in stay as they are, and X is there in B alone.
    known = dict(names)
    known[part[1]] = kind_of(program, names, part[2])
    return kind_of(program, known, part[3])


def kind_of(program, names, part):
    word = part[0]
    if word == "number":
        return NUM
    if word == "name":
        return names[part[1]]
    if word == "nil":
        return ("list", part[1])
    if word == "let":
        return kind_of_let(program, names, part)
    kinds = [kind_of(program, names, within) for within in inner(part)]
    if word == "call":
        return kind_of_call(program, part[1], kinds)
    return kind_of_word(word, kinds)


def want_each_once(names):
    if len(set(names)) != len(names):
        raise Twice(f"two have one name among {names!r}")


def want_no_twice(program):
    want_each_once([function[0] for function in program])
    for function in program:
        want_each_once([taker[0] for taker in function[1]])


def want_known(known, name):
    if name not in known:
        raise NoName(f"nothing is called {name} there")


# Known are the names that a name may be; F of a call is looked for among the functions.
def want_names_of_part(program, known, part):
    word = part[0]
    if word == "let":
        want_names_of_part(program, known, part[2])
        want_names_of_part(program, known + [part[1]], part[3])
        return
    if word == "name":
        want_known(known, part[1])
    if word == "call":
        function_called(program, part[1])
    for within in inner(part):
        want_names_of_part(program, known, within)


def want_names(program):
    function_called(program, "main")
    for function in program:
        want_names_of_part(program, [taker[0] for taker in function[1]], function[3])


def want_kinds(program):
    for taker in function_called(program, "main")[1]:
        want_kind(taker[1], NUM)
    for function in program:
        want_kind(kind_of(program, dict(function[1]), function[3]), function[2])


# Each look goes over all functions ahead of the next one, since Twice in the last function
# comes ahead of NoName in the first, and so on.
def look_over(program):
    want_no_twice(program)
    want_names(program)
    want_kinds(program)

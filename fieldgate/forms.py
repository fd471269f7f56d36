"""The forms of texts and parts (points 4 and 5), for all modules that read, look over or show them."""

MARKS = ("(", ")", ",", "=", ";")

KEPT = (
    "fun", "num", "list", "pair", "plus", "minus", "times", "less", "first", "second",
    "nil", "cons", "head", "tail", "none", "let", "if", "call",
)

# The words with nothing but parts behind them; number and name are no words of a text,
# and nil, let and call have a kind or a name ahead of their parts.
PARTS_BEHIND = {
    "plus": 2, "minus": 2, "times": 2, "less": 2, "pair": 2, "first": 1, "second": 1,
    "cons": 2, "head": 1, "tail": 1, "none": 1, "if": 3,
}


# The parts right within a part, from the left.
def inner(part):
    word = part[0]
    if word in PARTS_BEHIND:
        return part[1:]
    if word in ("let", "call"):
        return part[2:]
    return ()

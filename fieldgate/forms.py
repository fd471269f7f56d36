"""The forms of texts, parts and kinds (points 4, 5, 9, 12 and 13), for all modules that share them."""

MARKS = ("(", ")", ",", "=", ";")

KEPT = (
    "fun", "num", "list", "pair", "plus", "minus", "times", "less", "first", "second",
    "nil", "cons", "head", "tail", "none", "let", "if", "call",
)

# The words with nothing but parts behind them; number and name are no words of a text,
# and nil, let and call have a kind or a name ahead of their parts.
PARTS_BEHIND = {
    "plus": 2, "minus": 2, "times": 2, "less": 2, "pair": 2, "first": 1, "second": 1,
    "cons": 2, "head": 1, "tail": 1, "none": 1, "if": 3,
}

# The words of fielded parts with one field ahead of their parts, which they touch.
TOUCHING = ("pair", "first", "second", "cons", "head", "tail")


# The parts right within a part, from the left.
def inner(part):
    word = part[0]
    if word in PARTS_BEHIND:
        return part[1:]
    if word in ("let", "call"):
        return part[2:]
    return ()


# The parts right within a fielded or placed part, from the left.
def fielded_inner(part):
    word = part[0]
    if word in ("number", "name"):
        return ()
    if word == "call":
        return part[3:]
    if word in TOUCHING or word in ("let", "field"):
        return part[2:]
    return part[1:]


# The fields that a fielded or placed part touches by its own word. A bracket touches none.
def own_fields(part):
    if part[0] in TOUCHING:
        return (part[1],)
    if part[0] == "call":
        return part[2]
    return ()


# All fields that a fielded or placed part and the parts within it touch, each as often as it stands there.
def fields_within(part):
    fields = list(own_fields(part))
    for within in fielded_inner(part):
        fields.extend(fields_within(within))
    return fields


# A fielded or placed part with others in the place of the parts right within it.
def with_inner(part, parts):
    return part[:len(part) - len(parts)] + tuple(parts)


# The fields of all brackets right round a placed part, the outermost first, and the part within them. Taken
# at once, since a bracket lies in no bound of depth, and Python's own calls need go no deeper for it.
def unbracketed(part):
    fields = []
    while part[0] == "field":
        fields.append(part[1])
        part = part[2]
    return (fields, part)


# The fields of kinds with fields, each as often as it stands there.
def fields_of_kinds(kinds):
    fields = []
    for kind in kinds:
        if kind[0] != "num":
            fields.append(kind[1])
            fields.extend(fields_of_kinds(kind[2:]))
    return fields

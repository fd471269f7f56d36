"""Finds the fields of all values: the signs of functions and their fielded bodies (points 9 to 12)."""

from fieldgate.classes import Classes
from fieldgate.forms import TOUCHING, fielded_inner, fields_of_kinds, fields_within, inner, with_inner
from fieldgate.kinds import NUM


# A walk over one function, by the signs of all functions as they are by then. Its kinds and parts
# have places in the place of fields' numbers: places that are one are one field.
class Walk:
    def __init__(self, signs_by_name):
        self.signs_by_name = signs_by_name
        self.classes = Classes()

    # A kind with a field of its own wherever there is one.
    def spread(self, kind):
        if kind == NUM:
            return NUM
        place = self.classes.new()
        return (kind[0], place) + tuple([self.spread(within) for within in kind[1:]])

    # Places are made one here alone, by whole kinds, so two kinds of one field are one already. Were that
    # not asked first, pairs of the same in both halves, again and again, would be walked over without end.
    def make_one(self, kind, other):
        if kind == NUM or self.classes.same(kind[1], other[1]):
            return
        self.classes.one(kind[1], other[1])
        for within, its in zip(kind[2:], other[2:]):
            self.make_one(within, its)

    # A kind of F's sign, as it is at one call: a new place for each of F's fields, kept in places.
    def at_call(self, kind, places):
        if kind == NUM:
            return NUM
        if kind[1] not in places:
            places[kind[1]] = self.classes.new()
        return (kind[0], places[kind[1]]) + tuple([self.at_call(within, places) for within in kind[2:]])

    def call(self, name, kinds, parts):
        sign = self.signs_by_name[name]
        places = {}
        for taken, kind in zip(sign[0], kinds):
            self.make_one(self.at_call(taken, places), kind)
        gives = self.at_call(sign[1], places)
        fields = tuple([places[field] for field in sign[2]])
        return (gives, ("call", name, fields) + parts)

    # Of a part that touches a field: its own kind, and the kind whose field it touches.
    def touching(self, word, kinds):
        if word == "pair":
            kind = ("pair", self.classes.new(), kinds[0], kinds[1])
            return (kind, kind)
        if word == "cons":
            self.make_one(kinds[0], kinds[1][2])
            return (kinds[1], kinds[1])
        if word == "tail":
            return (kinds[0], kinds[0])
        if word == "second":
            return (kinds[0][3], kinds[0])
        return (kinds[0][2], kinds[0])

    def let(self, names, part):
        given = self.walked(names, part[2])
        # A copy: X is there in B alone, and hides no name elsewhere.
        known = dict(names)
        known[part[1]] = given[0]
        behind = self.walked(known, part[3])
        return (behind[0], ("let", part[1], given[1], behind[1]))

    # A tuple of a part's kind with fields and the fielded part.
    def walked(self, names, part):
        word = part[0]
        if word == "number":
            return (NUM, part)
        if word == "name":
            return (names[part[1]], part)
        if word == "nil":
            return (self.spread(("list", part[1])), ("nil",))
        if word == "let":
            return self.let(names, part)
        walks = [self.walked(names, within) for within in inner(part)]
        kinds = [walk[0] for walk in walks]
        parts = tuple([walk[1] for walk in walks])
        if word == "call":
            return self.call(part[1], kinds, parts)
        if word in TOUCHING:
            both = self.touching(word, kinds)
            return (both[0], (word, both[1][1]) + parts)
        if word == "if":
            self.make_one(kinds[1], kinds[2])
            return (kinds[1], (word,) + parts)
        return (NUM, (word,) + parts)


# Numbers for the places of a walk, as they come: one number for all that are one.
class Numbers:
    def __init__(self, classes):
        self.classes = classes
        self.by_stand_in = {}

    def number(self, place):
        return self.by_stand_in.setdefault(self.classes.stand_in(place), len(self.by_stand_in))

    def number_all(self, places):
        return [self.number(place) for place in places]

    def in_kind(self, kind):
        if kind == NUM:
            return NUM
        return (kind[0], self.number(kind[1])) + tuple([self.in_kind(within) for within in kind[2:]])

    # The numbers of a part's own fields come ahead of those within it.
    def in_part(self, part):
        ahead = part
        if part[0] in TOUCHING:
            ahead = (part[0], self.number(part[1])) + part[2:]
        if part[0] == "call":
            ahead = (part[0], part[1], tuple(self.number_all(part[2]))) + part[3:]
        return with_inner(ahead, [self.in_part(within) for within in fielded_inner(part)])


# The sign of a function as it is at first: each place has a field of its own, and none is touched.
def first_sign(function):
    walk = Walk({})
    takers = [walk.spread(taker[1]) for taker in function[1]]
    return (takers, walk.spread(function[2]), [])


# A fielded function, by the signs of all functions as they are by then.
def fielded_by(signs_by_name, function):
    walk = Walk(signs_by_name)
    names = [taker[0] for taker in function[1]]
    takers = [walk.spread(taker[1]) for taker in function[1]]
    gives = walk.spread(function[2])
    found = walk.walked(dict(zip(names, takers)), function[3])
    walk.make_one(found[0], gives)
    numbers = Numbers(walk.classes)
    # The takers first, then what is given, then the body: in this order the numbers come.
    taken = [numbers.in_kind(kind) for kind in takers]
    given = numbers.in_kind(gives)
    body = numbers.in_part(found[1])
    touched = sorted(set(fields_within(body)) & set(fields_of_kinds(taken + [given])))
    return (function[0], names, (taken, given, touched), body)


# Signs grow coarser and touch more from turn to turn, never more than the least that they must;
# so where none changes any more, the finest giving and the least touching are found.
def fielded(program):
    signs_by_name = dict([(function[0], first_sign(function)) for function in program])
    while True:
        functions = [fielded_by(signs_by_name, function) for function in program]
        later = dict([(function[0], function[2]) for function in functions])
        if later == signs_by_name:
            return functions
        signs_by_name = later


def signs(program):
    return [function[2] for function in fielded(program)]

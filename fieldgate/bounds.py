"""Tells how many cells and fields lie at once at most (points 19 and 20)."""

from fieldgate.forms import fielded_inner, unbracketed
from fieldgate.kinds import function_called


# A measure is a tuple (left, peak, deep) as point 19 tells them; left is a dict from fields to how many cells.
def added(left, more):
    both = dict(left)
    for field in more:
        both[field] = both.get(field, 0) + more[field]
    return both


# Several that are worked out one behind the other, as one.
def in_turn(measures):
    left = {}
    peak = 0
    deep = 0
    for measure in measures:
        peak = max(peak, sum(left.values()) + measure[1])
        left = added(left, measure[0])
        deep = max(deep, measure[2])
    return (left, max(peak, sum(left.values())), deep)


# Two of which one is worked out, as one.
def either(measure, other):
    left = dict(measure[0])
    for field in other[0]:
        left[field] = max(left.get(field, 0), other[0][field])
    return (left, max(measure[1], other[1]), max(measure[2], other[2]))


# A measure with one more cell behind all, the part's own.
def with_cell(measure, field):
    left = added(measure[0], {field: 1})
    return (left, max(measure[1], sum(left.values())), measure[2])


# A body's measure with the caller's fields in the place of those that its function touches.
def at_call(measure, touched, fields):
    left = {}
    for field, its in zip(touched, fields):
        left = added(left, {its: measure[0].get(field, 0)})
    return (left, measure[1], measure[2])


# A part's measure with the brackets of these fields round it.
def in_brackets(measure, fields):
    left = dict([(field, measure[0][field]) for field in measure[0] if field not in fields])
    return (left, measure[1], measure[2] + len(fields))


# The names of all functions that a part calls.
def called_in(part):
    names = []
    todo = [part]
    while todo != []:
        within = todo.pop()
        if within[0] == "call":
            names.append(within[1])
        todo.extend(fielded_inner(within))
    return names


# The measures of bodies, by the names of their functions, each there ahead of those that call it.
class Measures:
    def __init__(self, program):
        self.program = program
        self.by_name = {}

    def of_part(self, part):
        both = unbracketed(part)
        return in_brackets(self.of_bare(both[1]), both[0])

    # Of a part that is no bracket.
    def of_bare(self, part):
        within = [self.of_part(each) for each in fielded_inner(part)]
        if part[0] == "if":
            return in_turn([within[0], either(within[1], within[2])])
        if part[0] in ("pair", "cons"):
            return with_cell(in_turn(within), part[1])
        if part[0] == "call":
            sign = function_called(self.program, part[1])[2]
            within.append(at_call(self.by_name[part[1]], sign[2], part[2]))
        return in_turn(within)

    def is_ready(self, function):
        return all([name in self.by_name for name in called_in(function[3])])

    # Measures all functions that call none but measured ones, and tells how many these are.
    def measure_more(self):
        waiting = [function for function in self.program if function[0] not in self.by_name]
        ready = [function for function in waiting if self.is_ready(function)]
        for function in ready:
            self.by_name[function[0]] = self.of_part(function[3])
        return len(ready)


def bound(placed):
    measures = Measures(placed)
    while len(measures.by_name) < len(placed):
        # Each one that is left waits for another one that is left: somewhere they call in a ring.
        if measures.measure_more() == 0:
            return None
    body = measures.by_name["main"]
    outer = function_called(placed, "main")[2][2]
    return (body[1], body[2] + len(outer))

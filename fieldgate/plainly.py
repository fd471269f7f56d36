"""Runs programs plainly, with no fields at all (point 8)."""

from fieldgate.errors import Empty, TooDeep, TooGreat, TooLong
from fieldgate.forms import inner
from fieldgate.kinds import function_called

MOST_SIZE = 1000
MOST_UNDER_WAY = 12


# Within a run a list without members is None; a pair, or a list with members, is a tuple of its
# word (pair or cons), its size and its two values, so that no size is counted anew.
def size_of(value):
    if isinstance(value, tuple):
        return value[1]
    return 1


def cell_of(word, first, second):
    size = 1 + size_of(first) + size_of(second)
    if size > MOST_SIZE:
        raise TooGreat(f"a {word} of a size of {size}")
    return (word, size, first, second)


def want_few_figures(number):
    if abs(number) >= 10 ** 60:
        raise TooGreat("a number of more than 60 figures")


def reckoned(word, first, second):
    if word == "less":
        return 1 if first < second else 0
    if word == "plus":
        number = first + second
    elif word == "minus":
        number = first - second
    else:
        number = first * second
    want_few_figures(number)
    return number


# What first, second, head or tail finds in a cell.
def looked_up(word, value):
    if value is None:
        raise Empty(f"{word} of a list without members")
    if word in ("first", "head"):
        return value[2]
    return value[3]


# What comes of a word that has nothing but parts behind it, all of them worked out.
def come_of(word, given):
    if word in ("plus", "minus", "times", "less"):
        return reckoned(word, given[0], given[1])
    if word in ("pair", "cons"):
        return cell_of(word, given[0], given[1])
    if word == "none":
        return 1 if given[0] is None else 0
    return looked_up(word, given[0])


# A value as the asker is told it: each list is made anew at each of its places.
def told(value):
    if isinstance(value, int):
        return value
    if value is not None and value[0] == "pair":
        return (told(value[2]), told(value[3]))
    members = []
    while value is not None:
        members.append(told(value[2]))
        value = value[3]
    return members


# Asked at each call, of the calls that were begun and those that are under way ahead of it.
def want_few_calls(begun, under_way, most):
    if begun + 1 > most:
        raise TooLong("more calls than the most")
    if under_way + 1 > MOST_UNDER_WAY:
        raise TooDeep(f"more than {MOST_UNDER_WAY} calls under way at once")


# A run keeps piles of its own, and no part is worked out within another one's working out:
# how deep Python's own calls may go is then no matter, however deep the bodies and the calls are.
class PlainRun:
    def __init__(self, program, most):
        self.program = program
        self.most = most
        self.begun = 0
        self.under_way = 0
        # Tuples (step, part, names), the one that comes next at the end.
        self.todo = []
        # The values that are worked out and wait for the part around them.
        self.waiting = []

    def put_off(self, step, part, names):
        self.todo.append((step, part, names))

    def begin(self, part, names):
        word = part[0]
        if word == "number":
            self.waiting.append(part[1])
        elif word == "name":
            self.waiting.append(names[part[1]])
        elif word == "nil":
            self.waiting.append(None)
        elif word in ("let", "if"):
            self.put_off("go on", part, names)
            self.put_off("begin", inner(part)[0], names)
        else:
            self.put_off("end", part, names)
            for within in reversed(inner(part)):
                self.put_off("begin", within, names)

    # What stands behind the A of a let or an if.
    def go_on(self, part, names):
        value = self.waiting.pop()
        if part[0] == "let":
            # A copy: X is there in B alone, and hides no name elsewhere.
            known = dict(names)
            known[part[1]] = value
            self.put_off("begin", part[3], known)
        elif value != 0:
            self.put_off("begin", part[2], names)
        else:
            self.put_off("begin", part[3], names)

    def end(self, part):
        given = [self.waiting.pop() for within in inner(part)]
        given.reverse()
        if part[0] == "call":
            self.call(part[1], given)
        else:
            self.waiting.append(come_of(part[0], given))

    def call(self, name, given):
        want_few_calls(self.begun, self.under_way, self.most)
        self.begun = self.begun + 1
        self.under_way = self.under_way + 1
        self.put_off("back", None, None)
        self.put_off_body(name, given)

    def put_off_body(self, name, given):
        function = function_called(self.program, name)
        takers = [taker[0] for taker in function[1]]
        self.put_off("begin", function[3], dict(zip(takers, given)))

    def do_next(self):
        doing = self.todo.pop()
        if doing[0] == "begin":
            self.begin(doing[1], doing[2])
        elif doing[0] == "go on":
            self.go_on(doing[1], doing[2])
        elif doing[0] == "end":
            self.end(doing[1])
        else:
            self.under_way = self.under_way - 1


def plain_run(program, numbers, most=200):
    run = PlainRun(program, most)
    run.put_off_body("main", numbers)
    while run.todo != []:
        run.do_next()
    return told(run.waiting.pop())

"""Makes well-formed programs and writes them as texts, without any help of the package."""

import copy
import random

NUM = ("num",)
MARKS = "(),=;"
NAMES = ["a", "bc", "zzzzzzzz", "number", "name", "field", "main", "functio", "x", "y", "lists", "ifs"]


def kind_words(kind):
    words = [kind[0]]
    for within in kind[1:]:
        words += kind_words(within)
    return words


def part_pieces(part):
    word = part[0]
    if word == "number":
        return [str(part[1])]
    if word == "name":
        return [part[1]]
    pieces = ["(", word]
    if word == "nil":
        return pieces + kind_words(part[1]) + [")"]
    for within in part[1:]:
        pieces += [within] if isinstance(within, str) else part_pieces(within)
    return pieces + [")"]


def program_pieces(program):
    pieces = []
    for name, takers, kind, body in program:
        pieces += [";"] if pieces else []
        pieces += ["fun", name, "("]
        for number, (taker, taken) in enumerate(takers):
            pieces += [","] if number else []
            pieces += [taker] + kind_words(taken)
        pieces += [")"] + kind_words(kind) + ["="] + part_pieces(body)
    return pieces


def joined(pieces, gap):
    """The pieces as a text: gap(must) is what stands between two, must telling whether there must be a blank."""
    text = ""
    for number, piece in enumerate(pieces):
        must = number > 0 and piece not in MARKS and pieces[number - 1] not in MARKS
        text += gap(must) + piece
    return text


def tight(must):
    return " " if must else ""


def one_blank(must):
    return " "


def any_gap(dice):
    def gap(must):
        many = dice.randint(1 if must else 0, 3)
        return "".join(dice.choice(" \n") for turn in range(many))
    return gap


def text_of(program, gap=tight):
    return joined(program_pieces(program), gap)


def kind_made(dice, most):
    """A kind of at most so many words."""
    if most >= 3 and dice.random() < 0.3:
        first = kind_made(dice, most - 2)
        return ("pair", first, kind_made(dice, most - 1 - len(kind_words(first))))
    if most >= 2 and dice.random() < 0.5:
        return ("list", kind_made(dice, most - 1))
    return NUM


class Maker:
    """Makes parts of a wanted kind, for a given list of functions (name, takers, kind)."""

    def __init__(self, dice, heads, ifs=True):
        self.dice = dice
        self.heads = heads
        self.ifs = ifs

    def part(self, kind, known, deep):
        ways = [self.plain]
        if deep > 0:
            ways += [self.made, self.made, self.taken, self.let, self.call, self.name]
            ways += [self.choice] if self.ifs else [self.call]
        return self.dice.choice(ways)(kind, known, deep)

    def name(self, kind, known, deep):
        fitting = [name for name in known if known[name] == kind]
        if fitting:
            return ("name", self.dice.choice(fitting))
        return self.plain(kind, known, deep)

    def plain(self, kind, known, deep):
        fitting = [name for name in known if known[name] == kind]
        if fitting and self.dice.random() < 0.7:
            return ("name", self.dice.choice(fitting))
        if kind == NUM:
            figures = self.dice.choice([1, 1, 2, 5, 30])
            return ("number", self.dice.randint(-(10 ** figures) + 1, 10 ** figures - 1))
        if kind[0] == "list":
            return ("nil", kind[1])
        return ("pair", self.plain(kind[1], known, 0), self.plain(kind[2], known, 0))

    def made(self, kind, known, deep):
        if kind[0] == "pair":
            return ("pair", self.part(kind[1], known, deep - 1), self.part(kind[2], known, deep - 1))
        if kind[0] == "list":
            return ("cons", self.part(kind[1], known, deep - 1), self.part(kind, known, deep - 1))
        word = self.dice.choice(["plus", "minus", "times", "less", "none"])
        if word == "none":
            return ("none", self.part(("list", kind_made(self.dice, 3)), known, deep - 1))
        return (word, self.part(NUM, known, deep - 1), self.part(NUM, known, deep - 1))

    def taken(self, kind, known, deep):
        word = self.dice.choice(["first", "second", "head", "tail"])
        other = kind_made(self.dice, 3)
        around = {"first": ("pair", kind, other), "second": ("pair", other, kind), "head": ("list", kind),
                  "tail": kind}[word]
        # A nil of this kind may come of it, so it keeps to the seven words.
        if word == "tail" and kind[0] != "list" or len(kind_words(around)) > 7:
            return self.plain(kind, known, deep)
        return (word, self.part(around, known, deep - 1))

    def let(self, kind, known, deep):
        name = self.dice.choice(NAMES)
        hidden = kind_made(self.dice, 4)
        inside = dict(known)
        inside[name] = hidden
        return ("let", name, self.part(hidden, known, deep - 1), self.part(kind, inside, deep - 1))

    def choice(self, kind, known, deep):
        return ("if", self.part(NUM, known, deep - 1), self.part(kind, known, deep - 1),
                self.part(kind, known, deep - 1))

    def call(self, kind, known, deep):
        fitting = [head for head in self.heads if head[2] == kind]
        if not fitting:
            return self.plain(kind, known, deep)
        name, takers, gives = self.dice.choice(fitting)
        return ("call", name) + tuple(self.part(taken, known, deep - 1) for taker, taken in takers)


def inner(part):
    if part[0] in ("number", "name", "nil"):
        return []
    return [within for within in part[1:] if isinstance(within, tuple)]


def count(part):
    return 1 + sum(count(within) for within in inner(part))


def heads_made(dice, many):
    names = dice.sample([name for name in NAMES if name != "main"], many - 1)
    names.insert(dice.randint(0, many - 1), "main")
    heads = []
    for name in names:
        takers = dice.sample(NAMES, dice.randint(0, 4))
        heads.append((name, [(taker, NUM if name == "main" else kind_made(dice, 4)) for taker in takers],
                      kind_made(dice, 4)))
    return heads


def called_by(heads, number):
    """The functions that one may call where none calls itself: main all others, each other one those behind it."""
    if heads[number][0] == "main":
        return [head for head in heads if head[0] != "main"]
    return [head for head in heads[number + 1:] if head[0] != "main"]


def program_made(seed, rings=True, ifs=True, least=0):
    """A program that fits all points, within the bounds of point 5, with at least so many parts in main.

    Without rings no function calls itself, by whatever many others; without ifs there is no if.
    """
    dice = random.Random(seed)
    while True:
        heads = heads_made(dice, dice.randint(1, 6))
        program = []
        for number, (name, takers, kind) in enumerate(heads):
            maker = Maker(dice, heads if rings else called_by(heads, number), ifs)
            program.append((name, list(takers), kind, maker.part(kind, dict(takers), dice.randint(0, 4))))
        # Blanks may treble a text, and a little room is kept for them.
        fits = sum(count(function[3]) for function in program) <= 120 and len(text_of(program)) <= 1500
        if fits and count(main_of(program)[3]) >= least:
            return program


def main_of(program):
    """The function of a program, be it fielded or placed, that is called main."""
    return [function for function in program if function[0] == "main"][0]


def all_words(program):
    words = set()
    todo = [function[3] for function in program]
    while todo:
        part = todo.pop()
        words.add(part[0])
        todo += inner(part)
    return words


def spoilt(value):
    """Empties every list in what was told, as its owner may do."""
    for within in value:
        if isinstance(within, (list, tuple)):
            spoilt(within)
    if isinstance(value, list):
        value.clear()


def kept(value):
    """A copy that later changes do not reach."""
    return copy.deepcopy(value)


def all_whole(value):
    """Whether there is nothing but lists, tuples, texts and whole numbers in it, and no truth."""
    if isinstance(value, (list, tuple)):
        return type(value) in (list, tuple) and all(all_whole(within) for within in value)
    return type(value) in (int, str)


def doubling(many):
    """A part whose kind is that of x in a pair of the same in both halves, and so on so many times."""
    if many == 1:
        return "(pair x x)"
    return f"(let x {doubling(many - many // 2)} {doubling(many // 2)})"


# Programs as one would write them, each with lists of numbers for main.
SAMPLES = {
    "sum": ("""
        fun main (n num) num = (call sum (cons n (nil num)));
        fun sum (l list num) num = (if (none l) 0 (plus (head l) (call sum (tail l))))""", [[5], [-5]]),
    "sort": ("""
        fun main (a num, b num, c num, d num) list num =
            (call sort (cons a (cons b (cons c (cons d (nil num))))));
        fun sort (l list num) list num = (if (none l) l (call put (head l) (call sort (tail l))));
        fun put (n num, l list num) list num =
            (if (none l) (cons n (nil num))
                (if (less (head l) n) (cons (head l) (call put n (tail l))) (cons n l)))""",
             [[4, 3, 2, 1], [1, 2, 3, 4], [2, 2, -7, 2], [0, 0, 0, 0]]),
    "turn": ("""
        fun main (n num) pair list num list num =
            (let l (call down n) (pair (call turn l (nil num)) (call copy l)));
        fun down (n num) list num = (if n (cons n (call down (minus n 1))) (nil num));
        fun turn (l list num, m list num) list num = (if (none l) m (call turn (tail l) (cons (head l) m)));
        fun copy (l list num) list num = (if (none l) (nil num) (cons (head l) (call copy (tail l))))""",
             [[0], [1], [7], [11], [12]]),
    "swap": ("""
        fun main (n num) num = (call f n (cons 1 (nil num)) (cons 2 (cons 3 (nil num))));
        fun f (n num, a list num, b list num) num = (if n (call f (minus n 1) b a) (head a))""",
             [[0], [1], [2], [10], [11], [12]]),
    "ring": ("""
        fun main (n num) list list num = (call even n (nil list num) (cons n (nil num)));
        fun even (n num, m list list num, l list num) list list num =
            (if n (call odd (minus n 1) (cons l m) (cons n l)) m);
        fun odd (n num, m list list num, l list num) list list num =
            (if n (call even (minus n 1) m (tail l)) (cons (tail l) m))""", [[0], [1], [2], [3], [8], [11], [13]]),
    "zip": ("""
        fun main (n num) list pair num num = (let l (call down n) (call zip l (call add 10 l)));
        fun down (n num) list num = (if (less n 1) (nil num) (cons n (call down (minus n 1))));
        fun add (n num, l list num) list num =
            (if (none l) l (cons (plus n (head l)) (call add n (tail l))));
        fun zip (l list num, m list num) list pair num num =
            (if (none l) (nil pair num num)
                (cons (pair (head l) (head m)) (call zip (tail l) (tail m))))""", [[0], [1], [2], [9], [-4]]),
    "fib": ("fun main (n num) num = (if (less n 2) n (plus (call main (minus n 1)) (call main (minus n 2))))",
            [[0], [1], [8], [10], [11]]),
    "fresh": ("""
        fun main (n num) num = (call go n (pair n n));
        fun go (n num, p pair num num) num =
            (if n (plus (first p) (call go (minus n 1) (pair (second p) n))) (second p))""",
              [[0], [1], [5], [11], [12]]),
}

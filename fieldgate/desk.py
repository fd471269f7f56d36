"""A desk that is told rows and answers each (point 21)."""

from fieldgate.bounds import bound
from fieldgate.brackets import placed
from fieldgate.coding import coded
from fieldgate.errors import NoName, NoProgram, NoRow
from fieldgate.fielding import fielded
from fieldgate.kinds import function_called
from fieldgate.machine import run
from fieldgate.reading import is_name, is_number, read

LOAD = "load "


def written(value):
    if isinstance(value, int):
        return str(value)
    members = ",".join([written(member) for member in value])
    if isinstance(value, tuple):
        return f"<{members}>"
    return f"[{members}]"


def kind_written(kind):
    if kind[0] == "num":
        return "num"
    word = kind[0]
    field = kind[1]
    within = " ".join([kind_written(each) for each in kind[2:]])
    return f"{word} {field}:{within}"


def sign_written(sign):
    kinds = [kind_written(kind) for kind in sign[0] + [sign[1]]]
    return " ".join(kinds + ["/"] + [str(field) for field in sign[2]])


def counts_written(cells, fields):
    return f"{cells} {fields}"


# How many of a log's tuples begin with a word.
def count_of(log, word):
    return len([entry for entry in log if entry[0] == word])


# Whether the words of a row, parted by single blanks, are of a form other than load's.
def is_row(words):
    if words[0] in ("run", "lay"):
        return all([is_number(word) for word in words[1:]])
    if words[0] == "sign":
        return len(words) == 2 and is_name(words[1])
    return words == ["bound"]


class Desk:
    def __init__(self):
        # The placed program that was loaded last.
        self.loaded = None

    def say(self, row):
        if not isinstance(row, str):
            raise NoRow("no text")
        if row.startswith(LOAD):
            return self.load(row[len(LOAD):])
        words = row.split(" ")
        if not is_row(words):
            raise NoRow("a row of no form")
        if self.loaded is None:
            raise NoProgram("no program is loaded")
        return self.answer(words[0], words[1:])

    def load(self, text):
        self.loaded = placed(fielded(read(text)))
        return "loaded"

    def answer(self, word, behind):
        if word == "bound":
            return self.bound_written()
        if word == "sign":
            return sign_written(function_called(self.loaded, behind[0])[2])
        told = self.run_with([int(number) for number in behind])
        if word == "run":
            return written(told[0])
        return counts_written(count_of(told[1], "lay"), count_of(told[1], "open"))

    def bound_written(self):
        most = bound(self.loaded)
        if most is None:
            return "none"
        return counts_written(most[0], most[1])

    def run_with(self, numbers):
        takers = function_called(self.loaded, "main")[1]
        if len(numbers) != len(takers):
            raise NoName("another count of numbers than main has takers")
        return run(coded(self.loaded), numbers)

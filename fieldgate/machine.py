"""Runs codes on a pile of fields that open and shut (points 15 to 17)."""

from fieldgate.errors import Gone
from fieldgate.plainly import cell_of, looked_up, reckoned, told, want_few_calls


class Frame:
    def __init__(self, known, fields, behind_call):
        # The locals, the last one at the end.
        self.known = known
        self.fields = fields
        self.behind_call = behind_call


# A cell's place is the plain runner's tuple of the cell with the number of its field behind it: so its size is
# at hand without a look, and each look can ask first whether the field is open.
class Machine:
    def __init__(self, rows, most):
        self.rows = rows
        self.most = most
        self.begun = 0
        self.place = 0
        # The values, the top at the end.
        self.pile = []
        self.frames = []
        # For each field that was opened, by its number, whether it is open still.
        self.lies_open = []
        self.log = []

    def open_field(self):
        field = len(self.lies_open)
        self.lies_open.append(True)
        self.log.append(("open", field))
        return field

    def shut_field(self, field):
        self.lies_open[field] = False
        self.log.append(("shut", field))

    def want_open(self, field):
        if not self.lies_open[field]:
            raise Gone(f"the field {field} is shut")

    def lay(self, word, field):
        second = self.pile.pop()
        first = self.pile.pop()
        # Made ahead of the question for the field: TooGreat comes ahead of Gone.
        cell = cell_of(word, first, second)
        self.want_open(field)
        self.log.append(("lay", field))
        self.pile.append(cell + (field,))

    def look(self, word):
        cell = self.pile.pop()
        found = looked_up(word, cell)
        self.want_open(cell[4])
        self.log.append(("look", cell[4]))
        self.pile.append(found)

    def reckon(self, word):
        second = self.pile.pop()
        first = self.pile.pop()
        self.pile.append(reckoned(word, first, second))

    # Rows that carry values between the pile and the frame's locals.
    def carry(self, row):
        frame = self.frames[-1]
        if row[0] == "number":
            self.pile.append(row[1])
        elif row[0] == "local":
            self.pile.append(frame.known[row[1]])
        elif row[0] == "keep":
            frame.known.append(self.pile.pop())
        else:
            frame.known.pop()

    # Rows that go on elsewhere than at the next row.
    def go(self, row):
        if row[0] == "jump":
            self.place = row[1]
        elif row[0] == "call":
            self.enter(row[1], row[2], row[3])
        elif row[0] == "back":
            self.place = self.frames.pop().behind_call
        elif self.pile.pop() == 0:
            self.place = row[1]

    def enter(self, begin, many, numbers):
        # The first frame is no call's.
        want_few_calls(self.begun, len(self.frames) - 1, self.most)
        self.begun = self.begun + 1
        given = [self.pile.pop() for turn in range(many)]
        given.reverse()
        fields = self.frames[-1].fields
        self.frames.append(Frame(given, [fields[number] for number in numbers], self.place))
        self.place = begin

    def step(self):
        row = self.rows[self.place]
        self.place = self.place + 1
        word = row[0]
        if word in ("number", "local", "keep", "drop"):
            self.carry(row)
        elif word in ("jump", "unless", "call", "back"):
            self.go(row)
        elif word in ("pair", "cons"):
            self.lay(word, self.frames[-1].fields[row[1]])
        elif word in ("first", "second", "head", "tail"):
            self.look(word)
        elif word == "nil":
            self.pile.append(None)
        elif word == "none":
            self.pile.append(1 if self.pile.pop() is None else 0)
        elif word == "open":
            self.frames[-1].fields.append(self.open_field())
        elif word == "shut":
            self.shut_field(self.frames[-1].fields.pop())
        else:
            self.reckon(word)

    def want_all_open(self, value):
        todo = [value]
        while todo != []:
            cell = todo.pop()
            if isinstance(cell, tuple):
                self.want_open(cell[4])
                todo.extend(cell[2:4])

    # What is looked at here is no look of the run's own, so nothing of it stands in the log.
    def answer(self):
        value = self.pile.pop()
        self.want_all_open(value)
        return told(value)


def run(code, numbers, most=200):
    machine = Machine(code[0], most)
    outer = [machine.open_field() for turn in range(code[2])]
    # Copies, since rows change the locals and the fields of a frame.
    machine.frames.append(Frame(list(numbers), list(outer), None))
    machine.place = code[1]
    while machine.frames != []:
        machine.step()
    value = machine.answer()
    for field in reversed(outer):
        machine.shut_field(field)
    return (value, machine.log)

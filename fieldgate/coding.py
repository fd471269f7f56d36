"""Makes placed programs into codes for the machine (point 18)."""

from fieldgate.forms import fielded_inner, unbracketed
from fieldgate.kinds import function_called


# The last one of that name among the locals: a let hides takers and the lets around it.
def local_called(names, name):
    return max([number for number, known in enumerate(names) if known == name])


# The row for a part's own word, behind the rows of the parts within it. Names are those of the frame's
# locals, and fields its fields, both in the frame's order.
def row_of(part, names, fields):
    word = part[0]
    if word == "number":
        return part
    if word == "name":
        return ("local", local_called(names, part[1]))
    if word in ("pair", "cons"):
        return (word, fields.index(part[1]))
    if word == "call":
        handed = tuple([fields.index(field) for field in part[2]])
        return (word, part[1], len(fielded_inner(part)), handed)
    return (word,)


class Coder:
    def __init__(self):
        self.rows = []
        # For each function, by its name, the row at which it begins.
        self.begins = {}

    def put(self, row):
        self.rows.append(row)

    def put_function(self, function):
        self.begins[function[0]] = len(self.rows)
        self.put_part(function[3], function[1], function[2][2])
        self.put(("back",))

    def put_part(self, part, names, fields):
        both = unbracketed(part)
        for field in both[0]:
            self.put(("open",))
        self.put_bare(both[1], names, fields + both[0])
        for field in both[0]:
            self.put(("shut",))

    # A part that is no bracket.
    def put_bare(self, part, names, fields):
        if part[0] == "let":
            self.put_let(part, names, fields)
        elif part[0] == "if":
            self.put_if(part, names, fields)
        else:
            for within in fielded_inner(part):
                self.put_part(within, names, fields)
            self.put(row_of(part, names, fields))

    def put_let(self, part, names, fields):
        self.put_part(part[2], names, fields)
        self.put(("keep",))
        self.put_part(part[3], names + [part[1]], fields)
        self.put(("drop",))

    # Where the two rows go to is known only when what stands between is put.
    def put_if(self, part, names, fields):
        self.put_part(part[1], names, fields)
        asking = len(self.rows)
        self.put(("unless", 0))
        self.put_part(part[2], names, fields)
        leaving = len(self.rows)
        self.put(("jump", 0))
        self.rows[asking] = ("unless", len(self.rows))
        self.put_part(part[3], names, fields)
        self.rows[leaving] = ("jump", len(self.rows))

    # A call names its function until all functions have their rows.
    def settled(self, row):
        if row[0] == "call":
            return ("call", self.begins[row[1]]) + row[2:]
        return row


def coded(placed):
    coder = Coder()
    for function in placed:
        coder.put_function(function)
    rows = [coder.settled(row) for row in coder.rows]
    sign = function_called(placed, "main")[2]
    return (rows, coder.begins["main"], len(sign[2]))

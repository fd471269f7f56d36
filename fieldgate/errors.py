"""The refusals: one class for each, all under GateError, none under another one of these."""


class GateError(ValueError):
    pass


class NoText(GateError):
    pass


class Twice(GateError):
    pass


class NoName(GateError):
    pass


class NoKind(GateError):
    pass


class TooGreat(GateError):
    pass


class Empty(GateError):
    pass


class TooLong(GateError):
    pass


class TooDeep(GateError):
    pass


class Gone(GateError):
    pass


class NoRow(GateError):
    pass


class NoProgram(GateError):
    pass

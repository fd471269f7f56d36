"""Sets the brackets in which fields are open, each as far within as it can stand (points 13 and 14)."""

from fieldgate.forms import fielded_inner, fields_of_kinds, fields_within, own_fields, with_inner


def touched(part):
    return sorted(set(fields_within(part)))


# Whether a part is the least one in which all parts stand that touch a field, where all stand in it.
def is_least(part, field):
    if field in own_fields(part):
        return True
    touching = [within for within in fielded_inner(part) if field in touched(within)]
    return len(touching) > 1


# A part with the brackets of the fields handed in, a rising list; all parts that touch these stand in it.
def bracketed(part, fields):
    here = [field for field in fields if is_least(part, field)]
    parts = []
    for within in fielded_inner(part):
        touching = touched(within)
        parts.append(bracketed(within, [field for field in fields if field in touching and field not in here]))
    made = with_inner(part, parts)
    for field in reversed(here):
        made = ("field", field, made)
    return made


def placed_function(function):
    sign = function[2]
    own = sorted(set(touched(function[3])) - set(fields_of_kinds(sign[0] + [sign[1]])))
    # The lists within are made anew: those handed in stay their owner's.
    copied = (list(sign[0]), sign[1], list(sign[2]))
    return (function[0], list(function[1]), copied, bracketed(function[3], own))


def placed(fielded):
    return [placed_function(function) for function in fielded]

"""Values: whole numbers, parts, deeds and late holds."""

from drawhouse.words import is_whole


def kind_of(value):
    if is_whole(value):
        return "number"
    return value[0]


def value_text(value):
    kind = kind_of(value)
    if kind == "number":
        return str(value)
    if kind == "deed":
        return "deed " + value[1] + "." + value[2]
    return kind + " " + value[1]

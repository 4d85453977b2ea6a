"""Texts: piles and lists as lines that people read and write."""

from oftentogether.errors import NoText, TooGreat
from oftentogether.piles import MOST_MANY, MOST_RUNS
from oftentogether.sets import MOST_WARES

FIGURES = "0123456789"
SMALL_LETTERS = "abcdefghijklmnopqrstuvwxyz"
LONGEST_NAME = 8


def read(text):
    lines = lines_of(text)
    named = places_by_name(lines)
    if len(named) > MOST_WARES:
        raise TooGreat(MOST_WARES)
    if len(lines) > MOST_RUNS:
        raise TooGreat(MOST_RUNS)
    runs = [(many, tuple(sorted([named[name] for name in names]))) for many, names in lines]
    return (tuple(named), (len(named), tuple(runs)))


def shown(names, pile):
    return "\n".join([line_of(names, many, basket) for many, basket in pile[1]])


def listed(names, pairs):
    return "\n".join([line_of(names, number, some) for some, number in pairs])


def line_of(names, number, some):
    return f"{number}:" + "".join([" " + names[ware] for ware in some])


def lines_of(text):
    if not isinstance(text, str):
        raise NoText("a text of a pile is a text")
    if text == "":
        return []
    return [line_read(line) for line in text.split("\n")]


def line_read(line):
    words = line.split(" ")
    names = words[1:]
    if not is_head(words[0]) or not are_names(names):
        raise NoText("a line is a number from 1 to 10 ** 12, a : and for each ware a blank and its name")
    return (int(words[0][:-1]), names)


def is_head(word):
    return word.endswith(":") and is_many(word[:-1])


def is_many(word):
    # Very long rows of figures are turned away by their length, as Python's int may refuse them in its own way.
    if not 1 <= len(word) <= len(str(MOST_MANY)):
        return False
    if word[0] == "0" or not all([sign in FIGURES for sign in word]):
        return False
    return int(word) <= MOST_MANY


def are_names(words):
    return all([is_name(word) for word in words]) and len(set(words)) == len(words)


def is_name(word):
    return 1 <= len(word) <= LONGEST_NAME and all([sign in SMALL_LETTERS for sign in word])


def places_by_name(lines):
    named = {}
    for many, names in lines:
        for name in names:
            named.setdefault(name, len(named))
    return named

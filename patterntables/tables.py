"""The calls on one object that holds a list and its patterns' table."""

from patterntables.chunks import are_word_letters
from patterntables.faults import Fault
from patterntables.lists import read_list
from patterntables.lookup import look_up, parted_gaps
from patterntables.packing import packed, sizes, told_table

LOAD = 0
TABLE = 1
STORE = 2
LEVELS = 3
PART = 4
ADD = 5
DROP = 6
CHECK = 7
FIND = 8
NODE = 9


class UnknownCall(Exception):
    """This program has no call with this number."""


class CallReader:
    """Takes calls, number by number and row by row, out of one list of numbers."""

    def __init__(self, calls):
        self.calls = calls
        self.at = 0

    def is_done(self):
        return self.at >= len(self.calls)

    def take_number(self):
        number = self.calls[self.at]
        self.at += 1
        return number

    def take_row(self):
        begin = self.at + 1
        self.at = begin + self.calls[self.at]
        return self.calls[begin:self.at]

    def take_argument(self, call):
        """What a call brings with it: a row, a number or None."""
        if call in (LOAD, LEVELS, PART, ADD, CHECK, FIND):
            return self.take_row()
        if call in (DROP, NODE):
            return self.take_number()
        return None


class Holder:
    """A list and its table; both None while there's no list."""

    def __init__(self):
        self.held = None
        self.table = None


def load(holder, text):
    try:
        held = read_list(text)
    except Fault as fault:
        return [0, fault.code, fault.place]
    holder.held = held
    holder.table = packed(held.entries)
    return [1, len(held.words), len(held.entries)]


def patterns_and_sizes(holder):
    entries = holder.held.entries
    return [len(entries)] + sizes(holder.table, entries)


def store(holder):
    told = told_table(holder.table)
    return [len(told)] + told


def levels_between(holder, letters):
    if not are_word_letters(letters):
        return [-4]
    found = look_up(holder.table, letters)
    between = found.levels[1:-1]
    return [len(between)] + between + [found.steps]


def part(holder, letters):
    if not are_word_letters(letters):
        return [-4]
    found = look_up(holder.table, letters)
    gaps = parted_gaps(found.levels, holder.held.left, holder.held.right)
    return [len(gaps)] + gaps


def answer_of(holder, call, argument):
    """The answer to one call: its numbers, or a refusal alone."""
    if call == LOAD:
        return load(holder, argument)
    if holder.held is None:
        return [-1]
    if call == TABLE:
        return patterns_and_sizes(holder)
    if call == STORE:
        return store(holder)
    if call == LEVELS:
        return levels_between(holder, argument)
    if call == PART:
        return part(holder, argument)
    raise UnknownCall(call)


def answers(calls):
    """The answers to all calls of a list, one behind another, each with how many numbers it has."""
    reader = CallReader(calls)
    holder = Holder()
    told = []
    while not reader.is_done():
        call = reader.take_number()
        answer = answer_of(holder, call, reader.take_argument(call))
        told.append(len(answer))
        told.extend(answer)
    return told

"""The calls on one object that holds a list and its patterns' table."""

from patterntables.checking import is_right, tells_just
from patterntables.chunks import are_word_letters, pattern_entry
from patterntables.faults import Fault
from patterntables.lists import MOST_PATTERNS, read_list, with_entry
from patterntables.lookup import look_up, parted_gaps
from patterntables.nodes import counted_ends, digits_at, nodes_along
from patterntables.packing import kept_nodes, packed, sizes
from patterntables.rows import NotTold, RowReader
from patterntables.telling import read_table, told_node, told_table

LOAD = 0
TABLE = 1
STORE = 2
LEVELS = 3
PART = 4
ADD = 5
DROP = 6
CHECK = 7
FIND = 8
NODE = 9


class Holder:
    """A list and its table; both None while there's no list."""

    def __init__(self):
        self.held = None
        self.table = None


def load(holder, text):
    try:
        held = read_list(text)
    except Fault as fault:
        return [0, fault.code, fault.place]
    holder.held = held
    holder.table = packed(held.entries)
    return [1, len(held.words), len(held.entries)]


def patterns_and_sizes(holder):
    entries = holder.held.entries
    return [len(entries)] + sizes(holder.table, entries)


def store(holder):
    told = told_table(holder.table)
    return [len(told)] + told


def levels_between(holder, letters):
    if not are_word_letters(letters):
        return [-4]
    found = look_up(holder.table, letters)
    between = found.levels[1:-1]
    return [len(between)] + between + [found.steps]


def part(holder, letters):
    if not are_word_letters(letters):
        return [-4]
    found = look_up(holder.table, letters)
    gaps = parted_gaps(found.levels, holder.held.left, holder.held.right)
    return [len(gaps)] + gaps


def hold_entries(holder, entries):
    """Other patterns are held from now on; what add and drop answer of it."""
    before = holder.table
    holder.held.entries = entries
    holder.table = packed(entries)
    return patterns_and_sizes(holder) + [kept_nodes(before, holder.table)]


def add(holder, pattern):
    entry = pattern_entry(pattern)
    if entry is None:
        return [-4]
    entries = with_entry(holder.held.entries, entry)
    if len(entries) > MOST_PATTERNS:
        return [-7]
    return hold_entries(holder, entries)


def drop(holder, number):
    entries = holder.held.entries
    if number < 0 or number >= len(entries):
        return [-2]
    return hold_entries(holder, entries[:number] + entries[number + 1:])


def check(holder, numbers):
    try:
        table = read_table(numbers)
    except NotTold:
        return [-4]
    # What the nodes tell can't be gone through before it's known that they go on to lesser ones alone.
    if not is_right(table):
        return [0, 0, len(table.nodes)]
    just = tells_just(table, holder.held.entries)
    return [1 if just else 0, 1, len(table.nodes)]


def find_pattern(holder, pattern):
    entry = pattern_entry(pattern)
    if entry is None:
        return [-4]
    is_there = digits_at(holder.table, entry.signs) is not None
    return [1 if is_there else 0] + nodes_along(holder.table, entry.signs)


def node_and_ends(holder, number):
    nodes = holder.table.nodes
    if number < 0 or number >= len(nodes):
        return [-2]
    return [counted_ends(holder.table)[number]] + told_node(nodes[number])


def argument_of(reader, call):
    """What a call brings with it: a row, a number or None."""
    if call in (LOAD, LEVELS, PART, ADD, CHECK, FIND):
        return reader.take_row()
    if call in (DROP, NODE):
        return reader.take_number()
    return None


def answer_of(holder, call, argument):
    """The answer to one call: its numbers, or a refusal alone."""
    if call == LOAD:
        return load(holder, argument)
    if holder.held is None:
        return [-1]
    if call == TABLE:
        return patterns_and_sizes(holder)
    if call == STORE:
        return store(holder)
    if call == LEVELS:
        return levels_between(holder, argument)
    if call == PART:
        return part(holder, argument)
    if call == ADD:
        return add(holder, argument)
    if call == DROP:
        return drop(holder, argument)
    if call == CHECK:
        return check(holder, argument)
    if call == FIND:
        return find_pattern(holder, argument)
    return node_and_ends(holder, argument)


def answers(calls):
    """The answers to all calls of a list, one behind another, each with how many numbers it has."""
    reader = RowReader(calls)
    holder = Holder()
    told = []
    while not reader.is_done():
        call = reader.take_number()
        answer = answer_of(holder, call, argument_of(reader, call))
        told.append(len(answer))
        told.extend(answer)
    return told

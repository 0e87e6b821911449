"""Patterns packed into a table, with all ends shared that can be."""

from patterntables.chunks import Entry
from patterntables.nodes import Node, Table


class Packer:
    """Makes nodes, each once."""

    def __init__(self):
        self.nodes = []
        self.numbers = {}

    def number_of(self, digits, ways):
        """The number of the node with just these, made if it isn't there."""
        told = (digits, ways)
        if told not in self.numbers:
            self.numbers[told] = len(self.nodes)
            self.nodes.append(Node(digits, ways))
        return self.numbers[told]


def first_signs(entries):
    """The signs with which entries begin, each once, in order of size."""
    return sorted(set([entry.signs[0] for entry in entries if len(entry.signs) > 0]))


def entries_behind(entries, sign):
    """The entries that begin with a sign, without it."""
    return [Entry(entry.signs[1:], entry.digits) for entry in entries if entry.signs[:1] == (sign,)]


def digits_here(entries):
    """The digits of the entry without signs, or None."""
    for entry in entries:
        if len(entry.signs) == 0:
            return entry.digits
    return None


def node_of(entries, packer):
    """The number of the node of some entries; as deep as a pattern has signs."""
    ways = []
    for sign in first_signs(entries):
        ways.append((sign, node_of(entries_behind(entries, sign), packer)))
    return packer.number_of(digits_here(entries), tuple(ways))


def packed(entries):
    """The table of some patterns' entries."""
    packer = Packer()
    first = node_of(entries, packer)
    return Table(packer.nodes, first)


def nodes_without_sharing(entries):
    """How many unlike beginnings the entries' signs have, the empty one counted."""
    beginnings = {(): True}
    for entry in entries:
        for length in range(1, len(entry.signs) + 1):
            beginnings[entry.signs[:length]] = True
    return len(beginnings)


def sizes(table, entries):
    """How many nodes, ways on, ends, and nodes without sharing."""
    ways = sum([len(node.ways) for node in table.nodes])
    ends = len([node for node in table.nodes if node.digits is not None])
    return [len(table.nodes), ways, ends, nodes_without_sharing(entries)]


def ways_through(ways, numbers):
    """These ways, to nodes by other numbers; None if one of the nodes has none."""
    if any([way[1] not in numbers for way in ways]):
        return None
    return tuple([(way[0], numbers[way[1]]) for way in ways])


def kept_nodes(before, after):
    """How many nodes of one packed table are in another, too.

    In a packed table no two nodes tell the same, so two nodes tell the same just if their
    digits are the same, and their ways by the same signs lead to nodes that tell the same;
    a node's ways lead to lesser numbers, which have been looked for before it.
    """
    numbers_after = {}
    for number, node in enumerate(after.nodes):
        numbers_after[(node.digits, node.ways)] = number
    kept = {}
    for number, node in enumerate(before.nodes):
        told = (node.digits, ways_through(node.ways, kept))
        if told in numbers_after:
            kept[number] = numbers_after[told]
    return len(kept)

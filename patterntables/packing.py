"""Patterns packed into a table, with all ends shared that can be."""

from patterntables.chunks import Entry


class Node:
    """The digits of the pattern that ends here, or None; and ways on: (sign, node's number)."""

    def __init__(self, digits, ways):
        self.digits = digits
        self.ways = ways

    def way_by(self, sign):
        """The number of the node that a sign leads to, or None."""
        for way in self.ways:
            if way[0] == sign:
                return way[1]
        return None


class Table:
    """Nodes by their numbers, no two of which tell the same."""

    def __init__(self):
        self.nodes = []
        self.numbers = {}
        self.first = 0

    def number_of(self, digits, ways):
        """The number of the node that tells just this, made if it isn't there."""
        told = (digits, ways)
        if told not in self.numbers:
            self.numbers[told] = len(self.nodes)
            self.nodes.append(Node(digits, ways))
        return self.numbers[told]


def first_signs(entries):
    """The signs with which entries begin, each once, in order of size."""
    return sorted(set([entry.signs[0] for entry in entries if len(entry.signs) > 0]))


def entries_behind(entries, sign):
    """The entries that begin with a sign, without it."""
    return [Entry(entry.signs[1:], entry.digits) for entry in entries if entry.signs[:1] == (sign,)]


def digits_here(entries):
    """The digits of the entry without signs, or None."""
    for entry in entries:
        if len(entry.signs) == 0:
            return entry.digits
    return None


def node_of(entries, table):
    """The number of the node of some entries; as deep as a pattern has signs."""
    ways = []
    for sign in first_signs(entries):
        ways.append((sign, node_of(entries_behind(entries, sign), table)))
    return table.number_of(digits_here(entries), tuple(ways))


def packed(entries):
    """The table of some patterns' entries."""
    table = Table()
    table.first = node_of(entries, table)
    return table


def nodes_without_sharing(entries):
    """How many unlike beginnings the entries' signs have, the empty one counted."""
    beginnings = {(): True}
    for entry in entries:
        for length in range(1, len(entry.signs) + 1):
            beginnings[entry.signs[:length]] = True
    return len(beginnings)


def sizes(table, entries):
    """How many nodes, ways on, ends, and nodes without sharing."""
    ways = sum([len(node.ways) for node in table.nodes])
    ends = len([node for node in table.nodes if node.digits is not None])
    return [len(table.nodes), ways, ends, nodes_without_sharing(entries)]


def told_node(node):
    """A node as numbers."""
    told = [0]
    if node.digits is not None:
        told = [1, len(node.digits)] + list(node.digits)
    told.append(len(node.ways))
    for way in node.ways:
        told.extend(way)
    return told


def told_table(table):
    """A table as numbers: how many nodes, each of them, and the first one's number."""
    told = [len(table.nodes)]
    for node in table.nodes:
        told.extend(told_node(node))
    told.append(table.first)
    return told

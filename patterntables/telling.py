"""Tables told as numbers, and read again."""

from patterntables.nodes import Node, Table
from patterntables.rows import NotTold, RowReader

MOST_NODES = 300


def told_node(node):
    """A node as numbers."""
    told = [0]
    if node.digits is not None:
        told = [1, len(node.digits)] + list(node.digits)
    told.append(len(node.ways))
    for way in node.ways:
        told.extend(way)
    return told


def told_table(table):
    """A table as numbers: how many nodes, each of them, and the first one's number."""
    told = [len(table.nodes)]
    for node in table.nodes:
        told.extend(told_node(node))
    told.append(table.first)
    return told


def read_digits(reader):
    """The digits that end at a node, or None."""
    marker = reader.take_number()
    if marker == 0:
        return None
    if marker != 1:
        raise NotTold()
    return tuple(reader.take_row())


def read_ways(reader):
    """The ways on from a node."""
    flat = reader.take_some(2 * reader.take_number())
    return tuple([(flat[k], flat[k + 1]) for k in range(0, len(flat), 2)])


def read_node(reader):
    digits = read_digits(reader)
    return Node(digits, read_ways(reader))


def read_table(numbers):
    """The table that numbers tell, right or not; NotTold is raised if they tell none."""
    # A count below 0 would lead back to numbers that have been read.
    if any([number < 0 for number in numbers]):
        raise NotTold()
    reader = RowReader(numbers)
    count = reader.take_number()
    if count > MOST_NODES:
        raise NotTold()
    nodes = [read_node(reader) for k in range(count)]
    table = Table(nodes, reader.take_number())
    if not reader.is_done():
        raise NotTold()
    return table

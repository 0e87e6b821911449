"""Tables that were read, checked."""

from patterntables.nodes import counted_ends, digits_at


def goes_on_right(node, number):
    """Whether the node with this number goes on to lesser ones alone, by signs in order, no two the same."""
    signs = [way[0] for way in node.ways]
    if signs != sorted(set(signs)):
        return False
    return all([way[1] < number for way in node.ways])


def is_right(table):
    """Whether the first node is there, and each node goes on as it may."""
    if table.first >= len(table.nodes):
        return False
    return all([goes_on_right(node, number) for number, node in enumerate(table.nodes)])


def tells_just(table, entries):
    """Whether a table that's right tells these entries from its first node on, and no others.

    Signs lead to one node at most, so as many ends as entries, with each entry among
    them, are just the entries.
    """
    if counted_ends(table)[table.first] != len(entries):
        return False
    return all([digits_at(table, entry.signs) == entry.digits for entry in entries])

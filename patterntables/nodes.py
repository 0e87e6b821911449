"""Tables of nodes, and the ways through them."""


class Node:
    """The digits of the pattern that ends here, or None; and ways on: (sign, node's number)."""

    def __init__(self, digits, ways):
        self.digits = digits
        self.ways = ways

    def way_by(self, sign):
        """The number of the node that a sign leads to, or None."""
        for way in self.ways:
            if way[0] == sign:
                return way[1]
        return None


class Table:
    """Nodes by their numbers, and the first one's number."""

    def __init__(self, nodes, first):
        self.nodes = nodes
        self.first = first


def nodes_along(table, signs):
    """The numbers of the nodes to which signs lead, as far as they do; the first node's ahead."""
    reached = [table.first]
    for sign in signs:
        number = table.nodes[reached[-1]].way_by(sign)
        if number is None:
            return reached
        reached.append(number)
    return reached


def digits_at(table, signs):
    """The digits that stand where these signs lead, or None if no end is there."""
    reached = nodes_along(table, signs)
    if len(reached) <= len(signs):
        return None
    return table.nodes[reached[-1]].digits


def counted_ends(table):
    """How many ends are told from each node on, the node's own among them.

    Ends may be told very many times over, so they are counted and not gone through:
    nodes go on to lesser numbers alone, and those have been counted before.
    """
    counts = []
    for node in table.nodes:
        own = 0 if node.digits is None else 1
        counts.append(own + sum([counts[way[1]] for way in node.ways]))
    return counts

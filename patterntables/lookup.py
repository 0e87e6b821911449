"""Words looked up in a table, and parted."""

from patterntables.chunks import EDGE
from patterntables.nodes import nodes_along


class Found:
    """The level at each gap of some letters, from gap 0 on, and how many steps were gone."""

    def __init__(self, gaps):
        self.levels = [0] * gaps
        self.steps = 0

    def put_over(self, digits, gap):
        """Digits are put over the levels, the first of them at this gap."""
        for k, digit in enumerate(digits):
            self.levels[gap + k] = max(self.levels[gap + k], digit)


def go_from(table, signs, begin, found):
    """Goes as far as the signs from begin on lead, and puts over what ends on the way."""
    # The sign in front of all letters is no letter: it shares gap 0 with the first one.
    gap = max(begin - 1, 0)
    ahead = signs[begin:]
    reached = nodes_along(table, ahead)
    # The first node is reached without a step, but a sign that leads no further is one.
    found.steps += min(len(reached), len(ahead))
    for number in reached:
        if table.nodes[number].digits is not None:
            found.put_over(table.nodes[number].digits, gap)


def look_up(table, letters):
    """What is found for these letters, from each of their signs on."""
    signs = [EDGE] + letters + [EDGE]
    found = Found(len(letters) + 1)
    for begin in range(len(signs)):
        go_from(table, signs, begin, found)
    return found


def parted_gaps(levels, left, right):
    """The gaps between two letters, within the margins, at which the level is odd."""
    letters = len(levels) - 1
    within = [gap for gap in range(1, letters) if gap >= left and letters - gap >= right]
    return [gap for gap in within if levels[gap] % 2 == 1]

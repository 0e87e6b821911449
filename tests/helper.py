"""What the tests share: calls put together, answers taken apart, and the plain ways to hold them against."""

import re

from patterntables.tables import answers

LOAD, TABLE, STORE, LEVELS, PART, ADD, DROP, CHECK, FIND, NODE = range(10)

WORKED = "margins 0 0 ; pattern 1ba ; pattern 1ca ; pattern .a2b ; pattern c1 ;"


def row(given):
    """A row of numbers with its count ahead, from a text, bytes or a list."""
    if isinstance(given, str):
        given = given.encode("latin-1")
    return [len(given)] + list(given)


def load(text):
    return [LOAD] + row(text)


def levels(letters):
    return [LEVELS] + row(letters)


def part(letters):
    return [PART] + row(letters)


def split_answers(told):
    """The answers, each a list of numbers, out of what was given back."""
    parts = []
    at = 0
    while at < len(told):
        count = told[at]
        answer = told[at + 1:at + 1 + count]
        if count < 1 or len(answer) != count:
            raise AssertionError(f"no answer of {count} numbers at {at}: {told}")
        parts.append(answer)
        at += 1 + count
    return parts


def ask(*calls):
    """The answers to some calls on one new object."""
    asked = [number for call in calls for number in call]
    before = list(asked)
    told = answers(asked)
    if asked != before:
        raise AssertionError("the list handed in was changed")
    if type(told) is not list or any(type(number) is not int for number in told):
        raise AssertionError(f"not a list of whole numbers: {told!r}")
    parts = split_answers(told)
    if len(parts) != len(calls):
        raise AssertionError(f"{len(parts)} answers to {len(calls)} calls")
    return parts


def text_of(patterns, words=(), left=0, right=0):
    lines = [f"margins {left} {right} ;\n"]
    lines += [f"word {word} ;\n" for word in words]
    lines += [f"pattern {pattern} ;\n" for pattern in patterns]
    return "".join(lines)


def plain_pattern(pattern):
    """Whether it has the first point, its letters, the last point, and a digit for each gap."""
    front, body, back = re.fullmatch(r"(\.?)([^.]*)(\.?)", pattern).groups()
    letters = re.sub("[0-9]", "", body)
    digits = [int(digit or 0) for digit in re.fullmatch("([0-9]?)" + "[a-z]([0-9]?)" * len(letters), body).groups()]
    return front == ".", letters, back == ".", digits


def plain_signs(pattern):
    front, letters, back, digits = plain_pattern(pattern)
    return tuple([0] * front + list(letters.encode()) + [0] * back), tuple(digits)


def plain_levels(patterns, word):
    """The level at every gap, 0 to the last: each pattern is tried at each place."""
    found = [0] * (len(word) + 1)
    for pattern in patterns:
        front, letters, back, digits = plain_pattern(pattern)
        for place in range(len(word) - len(letters) + 1):
            end = place + len(letters)
            if word[place:end] != letters or front and place > 0 or back and end < len(word):
                continue
            for k, digit in enumerate(digits):
                found[place + k] = max(found[place + k], digit)
    return found


def plain_parted(patterns, word, left, right):
    found = plain_levels(patterns, word)
    return [gap for gap in range(1, len(word)) if found[gap] % 2 and gap >= left and len(word) - gap >= right]


def plain_steps(patterns, word):
    """Steps counted without a table: a sign leads on if some pattern's signs begin so."""
    beginnings = {plain_signs(pattern)[0][:k] for pattern in patterns for k in range(9)}
    signs = tuple([0] + list(word.encode()) + [0])
    steps = 0
    for begin in range(len(signs)):
        end = begin
        while end < len(signs):
            steps += 1
            end += 1
            if signs[begin:end] not in beginnings:
                break
    return steps


def stored_nodes(numbers):
    """The nodes, as (digits or None, ways), and the first one's number, out of the numbers of a table."""
    source = iter(numbers)
    nodes = []
    for _ in range(next(source)):
        digits = None
        if next(source) == 1:
            digits = tuple(next(source) for _ in range(next(source)))
        nodes.append((digits, tuple((next(source), next(source)) for _ in range(next(source)))))
    first = next(source)
    if list(source):
        raise AssertionError("numbers stand behind the table")
    return nodes, first


def told_ends(nodes, first):
    """All (signs, digits) that are told from a node on."""
    found = []
    waiting = [((), first)]
    while waiting:
        signs, number = waiting.pop()
        digits, ways = nodes[number]
        if digits is not None:
            found.append((signs, digits))
        waiting += [(signs + (sign,), onward) for sign, onward in ways]
    return sorted(found)


def some_patterns(chance, alphabet, most):
    """Up to so many patterns, no two with the same signs."""
    held = {}
    for _ in range(chance.randint(0, most)):
        letters = [chance.choice(alphabet) for _ in range(chance.randint(1, 6) if chance.random() < 0.3
                                                          else chance.randint(1, 3))]
        digits = [chance.choice(["", "", chance.choice("123456789")]) for _ in range(len(letters) + 1)]
        if not any(digits):
            digits[chance.randrange(len(digits))] = chance.choice("123456789")
        body = digits[0] + "".join(letter + digit for letter, digit in zip(letters, digits[1:]))
        pattern = chance.choice(["", "", "."]) + body + chance.choice(["", "", "."])
        held.setdefault(plain_signs(pattern)[0], pattern)
    return list(held.values())


def some_word(chance, alphabet):
    return "".join(chance.choice(alphabet) for _ in range(chance.randint(2, 16)))

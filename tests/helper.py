"""What the tests share: calls put together, answers taken apart, and the plain ways to hold them against."""

import re

from patterntables.tables import answers

LOAD, TABLE, STORE, LEVELS, PART, ADD, DROP, CHECK, FIND, NODE = range(10)

WORKED = "margins 0 0 ; pattern 1ba ; pattern 1ca ; pattern .a2b ; pattern c1 ;"
WORKED_PATTERNS = ["1ba", "1ca", ".a2b", "c1"]

NO_PATTERNS = ["a", "abc", ".a.", "1", "12", ".", "..", ".1.", ".1", "1.", "...", "0a", "a0", "a0b", "1a0",
               "a12", "11a", "a12b", "..a1", "a1..", "1.a", "a.1", "a.1b", ".a.b1", "a-1", "-a1", "a1-",
               "1abcdefg", "abcdefg1", "1abcdefghijklmnop", "-", "a1.b"]
# As bytes these are no chunk at all, so that no text could tell them.
NO_CHUNKS = ["", " ", " a1", "a1 ", "a1\n", "a 1", "a1;", "a1#", "#", "A1", "a1B", "\xe41", "a1\x00", "\x00a1", "a1\xff",
             "a/", "a:", "`1", "{1", "a1" + "a" * 39, "a1" * 4096]

LEAST, GREATEST = -10 ** 18, 10 ** 18


def row(given):
    """A row of numbers with its count ahead, from a text, bytes or a list."""
    if isinstance(given, str):
        given = given.encode("latin-1")
    return [len(given)] + list(given)


def load(text):
    return [LOAD] + row(text)


def levels(letters):
    return [LEVELS] + row(letters)


def part(letters):
    return [PART] + row(letters)


def add(pattern):
    return [ADD] + row(pattern)


def drop(number):
    return [DROP, number]


def check(numbers):
    return [CHECK] + row(numbers)


def find(pattern):
    return [FIND] + row(pattern)


def node(number):
    return [NODE, number]


def split_answers(told):
    """The answers, each a list of numbers, out of what was given back."""
    parts = []
    at = 0
    while at < len(told):
        count = told[at]
        answer = told[at + 1:at + 1 + count]
        if count < 1 or len(answer) != count:
            raise AssertionError(f"no answer of {count} numbers at {at}: {told}")
        if min(answer) < 0 and answer not in ([-1], [-2], [-4], [-7]):
            raise AssertionError(f"no refusal, but a number below 0: {answer}")
        parts.append(answer)
        at += 1 + count
    return parts


def ask(*calls):
    """The answers to some calls on one new object."""
    asked = [number for call in calls for number in call]
    if len(calls) > 60 or len(asked) > 16000:
        raise AssertionError(f"{len(calls)} calls of {len(asked)} numbers are not handed in")
    before = list(asked)
    told = answers(asked)
    if asked != before:
        raise AssertionError("the list handed in was changed")
    if type(told) is not list or any(type(number) is not int for number in told):
        raise AssertionError(f"not a list of whole numbers: {told!r}")
    parts = split_answers(told)
    if len(parts) != len(calls):
        raise AssertionError(f"{len(parts)} answers to {len(calls)} calls")
    return parts


def text_of(patterns, words=(), left=0, right=0):
    lines = [f"margins {left} {right} ;\n"]
    lines += [f"word {word} ;\n" for word in words]
    lines += [f"pattern {pattern} ;\n" for pattern in patterns]
    return "".join(lines)


def plain_pattern(pattern):
    """Whether it has the first point, its letters, the last point, and a digit for each gap."""
    front, body, back = re.fullmatch(r"(\.?)([^.]*)(\.?)", pattern).groups()
    letters = re.sub("[0-9]", "", body)
    digits = [int(digit or 0) for digit in re.fullmatch("([0-9]?)" + "[a-z]([0-9]?)" * len(letters), body).groups()]
    return front == ".", letters, back == ".", digits


def plain_signs(pattern):
    front, letters, back, digits = plain_pattern(pattern)
    return tuple([0] * front + list(letters.encode()) + [0] * back), tuple(digits)


def plain_levels(patterns, word):
    """The level at every gap, 0 to the last: each pattern is tried at each place."""
    found = [0] * (len(word) + 1)
    for pattern in patterns:
        front, letters, back, digits = plain_pattern(pattern)
        for place in range(len(word) - len(letters) + 1):
            end = place + len(letters)
            if word[place:end] != letters or front and place > 0 or back and end < len(word):
                continue
            for k, digit in enumerate(digits):
                found[place + k] = max(found[place + k], digit)
    return found


def plain_parted(patterns, word, left, right):
    found = plain_levels(patterns, word)
    return [gap for gap in range(1, len(word)) if found[gap] % 2 and gap >= left and len(word) - gap >= right]


def plain_steps(patterns, word):
    """Steps counted without a table: a sign leads on if some pattern's signs begin so."""
    beginnings = {plain_signs(pattern)[0][:k] for pattern in patterns for k in range(9)}
    signs = tuple([0] + list(word.encode()) + [0])
    steps = 0
    for begin in range(len(signs)):
        end = begin
        while end < len(signs):
            steps += 1
            end += 1
            if signs[begin:end] not in beginnings:
                break
    return steps


def plain_with(patterns, pattern):
    """The patterns with one put behind them, or in the place of the one with the same letters and points."""
    signs = [plain_signs(held)[0] for held in patterns]
    if plain_signs(pattern)[0] in signs:
        return [pattern if held == plain_signs(pattern)[0] else other for held, other in zip(signs, patterns)]
    return patterns + [pattern]


def plain_beginnings(patterns):
    return {plain_signs(pattern)[0][:k] for pattern in patterns for k in range(9)} | {()}


def plain_tellings(patterns):
    """What is told from each node on: for each beginning of signs the rest of what begins so, with its digits."""
    entries = [plain_signs(pattern) for pattern in patterns]
    return {frozenset((signs[len(begun):], digits) for signs, digits in entries if signs[:len(begun)] == begun)
            for begun in plain_beginnings(patterns)}


def plain_sizes(patterns):
    """How many patterns there are, and the sizes, counted without a table."""
    tellings = plain_tellings(patterns)
    ways = sum(len({signs[0] for signs, digits in telling if signs}) for telling in tellings)
    ends = sum(any(not signs for signs, digits in telling) for telling in tellings)
    return [len(patterns), len(tellings), ways, ends, len(plain_beginnings(patterns))]


def plain_changed(before, after):
    """What add or drop answers when these patterns take the place of those before."""
    return plain_sizes(after) + [len(plain_tellings(before) & plain_tellings(after))]


def plain_nodes(patterns):
    """The nodes, and the number of the node to which each beginning leads, from all beginnings of signs.

    A beginning comes behind all that go on from it, and those are in order of their signs.
    """
    ends = dict(plain_signs(pattern) for pattern in patterns)
    beginnings = plain_beginnings(patterns)
    # A sign above all others at the end puts a beginning behind what goes on from it.
    ordered = sorted(beginnings, key=lambda signs: signs + (1000,))
    numbers, made = {}, []
    for signs in ordered:
        ways = sorted((on[-1], numbers[on]) for on in beginnings if on[:-1] == signs and on)
        one = (ends.get(signs), tuple(ways))
        if one not in made:
            made.append(one)
        numbers[signs] = made.index(one)
    return made, numbers


def told_as_numbers(digits, ways):
    told = [0] if digits is None else [1, len(digits), *digits]
    return told + [len(ways)] + [number for way in ways for number in way]


def nodes_as_numbers(nodes, first):
    return [len(nodes)] + [number for each in nodes for number in told_as_numbers(*each)] + [first]


def plain_table(patterns):
    """The numbers of the table, made another way."""
    nodes, numbers = plain_nodes(patterns)
    return nodes_as_numbers(nodes, numbers[()])


def plain_find(patterns, pattern):
    numbers = plain_nodes(patterns)[1]
    signs = plain_signs(pattern)[0]
    reached = [numbers[signs[:k]] for k in range(len(signs) + 1) if signs[:k] in numbers]
    return [int(signs in [plain_signs(held)[0] for held in patterns])] + reached


def plain_node(patterns, number):
    nodes = plain_nodes(patterns)[0]
    if not 0 <= number < len(nodes):
        return [-2]
    return [len(told_ends(nodes, number))] + told_as_numbers(*nodes[number])


def plain_check(patterns, numbers):
    """What check answers of numbers that tell no table in which ends are told very many times."""
    try:
        nodes, first = stored_nodes(numbers)
    except AssertionError:
        return [-4]
    if len(nodes) > 300 or min(numbers) < 0:
        return [-4]
    right = first < len(nodes)
    for number, (digits, ways) in enumerate(nodes):
        for k, (sign, onward) in enumerate(ways):
            right = right and onward < number and all(earlier < sign for earlier, other in ways[:k])
    just = right and told_ends(nodes, first) == sorted(plain_signs(pattern) for pattern in patterns)
    return [int(just), int(right), len(nodes)]


def one_more(source, among=None):
    for number in source:
        if among is None or number in among:
            return number
        raise AssertionError(f"the marker {number}")
    raise AssertionError("numbers are missing")


def stored_nodes(numbers):
    """The nodes, as (digits or None, ways), and the first one's number, out of the numbers of a table."""
    source = iter(numbers)
    nodes = []
    for _ in range(one_more(source)):
        digits = None
        if one_more(source, among=(0, 1)) == 1:
            digits = tuple(one_more(source) for _ in range(one_more(source)))
        nodes.append((digits, tuple((one_more(source), one_more(source)) for _ in range(one_more(source)))))
    first = one_more(source)
    if list(source):
        raise AssertionError("numbers stand behind the table")
    return nodes, first


def told_ends(nodes, first):
    """All (signs, digits) that are told from a node on."""
    found = []
    waiting = [((), first)]
    while waiting:
        signs, number = waiting.pop()
        digits, ways = nodes[number]
        if digits is not None:
            found.append((signs, digits))
        waiting += [(signs + (sign,), onward) for sign, onward in ways]
    return sorted(found)


def some_patterns(chance, alphabet, most):
    """Up to so many patterns, no two with the same signs."""
    held = {}
    for _ in range(chance.randint(0, most)):
        letters = [chance.choice(alphabet) for _ in range(chance.randint(1, 6) if chance.random() < 0.3
                                                          else chance.randint(1, 3))]
        digits = [chance.choice(["", "", chance.choice("123456789")]) for _ in range(len(letters) + 1)]
        if not any(digits):
            digits[chance.randrange(len(digits))] = chance.choice("123456789")
        body = digits[0] + "".join(letter + digit for letter, digit in zip(letters, digits[1:]))
        pattern = chance.choice(["", "", "."]) + body + chance.choice(["", "", "."])
        held.setdefault(plain_signs(pattern)[0], pattern)
    return list(held.values())


def greatest_patterns():
    """Forty patterns whose table has as many nodes as one can have: 282."""
    bodies = [f"{letter}{k % 9 + 1}bcd{k // 9 + 1}e" for k, letter in enumerate("abcdefghijklmnopqrst")]
    return [f"{body}f." for body in bodies] + [f".{body}9f." for body in bodies]


def some_word(chance, alphabet):
    return "".join(chance.choice(alphabet) for _ in range(chance.randint(2, 16)))

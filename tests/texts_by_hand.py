"""Texts read by the points' own words, with nothing of the program; and texts spoilt sign by sign."""

import re
from math import gcd

from tests.samples import odd_things

WHOLE = r"(?:0|-?[1-9][0-9]{0,59})"
RATIO = re.compile(rf"({WHOLE})(?:/([1-9][0-9]{{0,59}}))?")
NAME = re.compile(r"[a-z]{1,8}")
SIGNS = " \n\t-0/,|[];1a+"


def ratio_by_hand(text):
    """The fraction that a text writes, or None."""
    match = RATIO.fullmatch(text)
    if match is None:
        return None
    top, bottom = int(match.group(1)), int(match.group(2) or 1)
    if match.group(2) is not None and (bottom == 1 or gcd(top, bottom) != 1):
        return None
    return (top, bottom)


def number_by_words(text, many):
    """The whole number from 0 to below many that a text writes, or None."""
    return int(text) if re.fullmatch("0|[1-9][0-9]?", text) and int(text) < many else None


def rooms_by_hand(row):
    """The rooms that a row writes, or None."""
    words = row.split(" ")
    rooms = [ratio_by_hand(word) for word in words[1:]]
    if words[0] != "rooms" or not 2 <= len(rooms) <= 12:
        return None
    return rooms if all([room is not None and room[0] > 0 for room in rooms]) else None


def ask_by_hand(row, rooms, asks):
    """The ask that a row writes behind others, or None."""
    words = row.split(" ")
    if len(words) != 5 or words[0] != "ask" or not NAME.fullmatch(words[1]) or words[1] in [ask[0] for ask in asks]:
        return None
    one, other = [number_by_words(word, len(rooms)) for word in words[2:4]]
    size = ratio_by_hand(words[4])
    if one is None or other is None or one == other or size is None or size[0] < 0 or len(asks) >= 20:
        return None
    return (words[1], one, other, size)


def ring_by_hand(text):
    """The ring that a text writes, or the number of the first wrong row."""
    rows = text.split("\n")
    rooms = rooms_by_hand(rows[0])
    if rooms is None:
        return 0
    asks = []
    for number, row in enumerate(rows):
        if number > 0:
            ask = ask_by_hand(row, rooms, asks)
            if ask is None:
                return number
            asks.append(ask)
    return (rooms, asks)


def list_by_hand(text, between, one_by_hand):
    """The list that a text writes, or None."""
    if text == "-":
        return []
    found = [one_by_hand(part) for part in text.split(between)]
    return found if len(found) <= 20 and None not in found else None


def sending_by_hand(text):
    return list_by_hand(text, " ", ratio_by_hand)


def ways_by_hand(text):
    return list_by_hand(text, " ", lambda word: word if word in ("on", "back") else None)


def slide_by_hand(text):
    match = re.fullmatch(r"(\S+) (on|back) (\S+) (on|back) (\S+)", text)
    if match is None:
        return None
    k, l = number_by_words(match.group(1), 20), number_by_words(match.group(3), 20)
    amount = ratio_by_hand(match.group(5))
    if k is None or l is None or amount is None:
        return None
    return (k, match.group(2), l, match.group(4), amount)


def slides_by_hand(text):
    return list_by_hand(text, ", ", slide_by_hand)


def tree_by_hand(text):
    """The tree that a text writes, or None: leaves are read, then each split whose trees are both read."""
    trees = []

    def keep(tree, deep):
        trees.append((tree, deep))
        return f"<{len(trees) - 1}>"

    def leaf(match):
        if match.group(0) == "turned":
            return keep(("turned",), 0)
        return keep(("cut", int(match.group(1)), int(match.group(2))), 0)

    def split(match):
        (on, left), (back, right) = trees[int(match.group(2))], trees[int(match.group(3))]
        return keep(("split", int(match.group(1)), on, back), max(left, right) + 1)

    if "<" in text or ">" in text:
        return None
    tie = "([0-9]|1[01])"
    text = re.sub(rf"(?<![^\[ ])(?:turned|cut {tie} {tie})(?![^\] ])", leaf, text)
    before = None
    while text != before:
        before = text
        text = re.sub(r"split ([0-9]|1[0-9]) \[<([0-9]+)> \| <([0-9]+)>\]", split, text)
    match = re.fullmatch("<([0-9]+)>", text)
    if match is None or trees[int(match.group(1))][1] > 20:
        return None
    return trees[int(match.group(1))][0]


def spoilt_texts(text):
    """A text's likes with one sign left out, put in, doubled or exchanged, and cut off behind each sign."""
    for number in range(len(text) + 1):
        yield text[:number]
        yield text[number:]
        for sign in SIGNS:
            yield text[:number] + sign + text[number:]
            yield text[:number] + sign + text[number + 1:]
        yield text[:number] + text[number + 1:]
        yield text[:number] + text[number:number + 1] + text[number:]
    yield from (text.upper(), text + "\n", "\n" + text, text + " ", " " + text, text + text, text + " " + text)


def no_texts():
    """Things of every other kind than a text."""
    return [thing for thing in odd_things() if not isinstance(thing, str)] + [b"1", ["1"], ("1",), {"1": "1"}]


def same_kinds(test, one, other):
    """Check that two things are alike, kind for kind."""
    test.assertIs(type(one), type(other))
    test.assertEqual(one, other)
    if isinstance(one, (list, tuple)):
        for first, second in zip(one, other):
            same_kinds(test, first, second)

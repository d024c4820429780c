"""Sendings, ways, slides and trees written and read by their form alone.

What reads a part of a text tells None of one that it can't read.
"""

from ringloads.errors import NoText
from ringloads.names import is_number_below
from ringloads.ringtexts import ratio_in, shown_ratio, whole_in
from ringloads.rings import MOST_ASKS, MOST_TIES
from ringloads.slides import has_form_of_slide
from ringloads.trees import CUT, SPLIT, TURNED
from ringloads.ways import is_way

NOTHING = "-"
BAR = " | "
MOST_LISTED = 20
MOST_SPLITS = 20


def shown_words(words):
    """Words with a blank between, or the writing of nothing."""
    return " ".join(words) if words else NOTHING


def shown_sending(some):
    """The writing of a sending."""
    return shown_words([shown_ratio(part) for part in some])


def shown_ways(ways):
    """The writing of ways."""
    return shown_words(ways)


def shown_slides(slides):
    """The writing of slides."""
    return ", ".join([shown_slide(slide) for slide in slides]) if slides else NOTHING


def shown_slide(slide):
    """The writing of one slide."""
    return " ".join([str(slide[0]), slide[1], str(slide[2]), slide[3], shown_ratio(slide[4])])


def shown_tree(tree):
    """The writing of a tree."""
    if tree[0] != SPLIT:
        return " ".join([str(one) for one in tree])
    k = tree[1]
    on = shown_tree(tree[2])
    back = shown_tree(tree[3])
    return f"{SPLIT} {k} [{on}{BAR}{back}]"


def read_sending(text):
    """The sending that a thing of any kind writes, or NoText."""
    return read_list(text, " ", ratio_in)


def read_ways(text):
    """The ways that a thing of any kind writes, or NoText."""
    return read_list(text, " ", way_in)


def read_slides(text):
    """The slides that a thing of any kind writes, or NoText."""
    return read_list(text, ", ", slide_in)


def read_list(text, between, one_in):
    """The list that a thing of any kind writes, each thing in it read by one_in; or NoText."""
    if not isinstance(text, str):
        raise NoText(0)
    if text == NOTHING:
        return []
    found = [one_in(part) for part in text.split(between)]
    if len(found) > MOST_LISTED or None in found:
        raise NoText(0)
    return found


def way_in(text):
    """The way that a text writes, or None."""
    return text if is_way(text) else None


def slide_in(text):
    """The slide that a text writes, or None."""
    words = text.split(" ")
    if len(words) != 5:
        return None
    slide = (whole_in(words[0]), words[1], whole_in(words[2]), words[3], ratio_in(words[4]))
    return slide if has_form_of_slide(slide, MOST_ASKS) else None


def read_tree(text):
    """The tree that a thing of any kind writes, or NoText."""
    found = tree_in(text, MOST_SPLITS) if isinstance(text, str) else None
    if found is None:
        raise NoText(0)
    return found


def tree_in(text, splits):
    """The tree that a text writes, of at most so many splits within one another, or None."""
    words = text.split(" ")
    if words == [TURNED]:
        return (TURNED,)
    if words[0] == CUT:
        return cut_in(words)
    if words[0] == SPLIT and splits > 0:
        return split_in(text, splits)
    return None


def cut_in(words):
    """The cut that words write, or None."""
    ties = [whole_in(word) for word in words[1:]]
    if len(ties) != 2 or not all([is_number_below(tie, MOST_TIES) for tie in ties]):
        return None
    return (CUT, ties[0], ties[1])


def split_in(text, splits):
    """The split that a text that begins so writes, of at most so many splits within one another, or None."""
    parts = text.partition(" [")
    k = whole_in(parts[0][len(SPLIT) + 1:])
    trees = parts[2]
    bar = bar_in(trees)
    if not is_number_below(k, MOST_ASKS) or bar is None or not trees.endswith("]"):
        return None
    on = tree_in(trees[:bar], splits - 1)
    back = tree_in(trees[bar + len(BAR):-1], splits - 1)
    return None if on is None or back is None else (SPLIT, k, on, back)


def bar_in(text):
    """Where the first bar stands that is within no brackets, or None."""
    within = 0
    for start, sign in enumerate(text):
        if sign == "[":
            within += 1
        if sign == "]":
            within -= 1
        if within == 0 and text[start:start + len(BAR)] == BAR:
            return start
    return None

"""The desk: rows of text, told one at a time, and each answered by a text."""

from ringloads.best import best_ways
from ringloads.cuts import greatest_cut
from ringloads.days import Days
from ringloads.errors import NoDay, NoName, NoRow
from ringloads.leasts import least_top
from ringloads.names import is_name, is_number_below
from ringloads.papertexts import shown_ways, shown_words
from ringloads.parting import fitting, most_more
from ringloads.ringtexts import ratio_in, read_ring, shown_ratio, shown_ring, whole_in
from ringloads.rounding import near_whole

OK = "ok"
LINE = "; "
# Whole numbers have at most two figures.
NUMBERS = 100
# All rows but those that begin with ring, whose text may have any signs; words in capitals stand for others.
ROWS = (
    "shown NAME",
    "drop NAME",
    "names",
    "least NAME",
    "cut NAME",
    "fits NAME TOP",
    "more NAME NUMBER NUMBER TOP",
    "near NAME",
    "best NAME",
    "days NAME",
    "change NAME more NAME NUMBER NUMBER RATIO",
    "change NAME gone NAME",
    "change NAME size NAME RATIO",
    "change NAME room NUMBER RATIO",
    "undo NAME",
    "now NAME",
    "ways NAME",
)


def values_in(row):
    """What the words of a row tell, a list, or NoRow."""
    words = row.split(" ")
    for form in ROWS:
        kinds = form.split(" ")
        values = [value_of(kind, word) for kind, word in zip(kinds, words)]
        if len(kinds) == len(words) and None not in values:
            return values
    raise NoRow("the desk knows no such row")


def value_of(kind, word):
    """What a word tells that is to be of a kind, or None."""
    if kind == "NAME":
        return word if is_name(word) else None
    if kind == "NUMBER":
        number = whole_in(word)
        return number if is_number_below(number, NUMBERS) else None
    if kind == "RATIO":
        return ratio_in(word)
    if kind == "TOP":
        top = ratio_in(word)
        return top if top is not None and top[0] >= 0 else None
    return word if word == kind else None


def shown_in_row(ring):
    """The writing of a ring as one row."""
    return shown_ring(ring).replace("\n", LINE)


def told_shown(ring, values):
    """The answer to shown."""
    return shown_in_row(ring)


def told_least(ring, values):
    """The answer to least."""
    return shown_ratio(least_top(ring)[0])


def told_cut(ring, values):
    """The answer to cut."""
    greatest = greatest_cut(ring)
    return " ".join([shown_ratio(greatest[0]), str(greatest[1][0]), str(greatest[1][1])])


def told_fits(ring, values):
    """The answer to fits."""
    return "yes" if fitting(ring, values[2])[0] == "sending" else "no"


def told_more(ring, values):
    """The answer to more, or NoRow where there are no two such places."""
    one = values[2]
    other = values[3]
    if max(one, other) >= len(ring[0]) or one == other:
        raise NoRow("more is asked between two unlike places of the ring")
    found = most_more(ring, one, other, values[4])
    return shown_ratio(found[1]) if found[0] == "most" else "none"


def told_near(ring, values):
    """The answer to near."""
    near = near_whole(ring)
    return shown_with_top(near[1], near[0])


def told_best(ring, values):
    """The answer to best, or TooMany."""
    best = best_ways(ring)
    return shown_with_top(best[0], best[1])


def shown_with_top(top, ways):
    """The writing of ways, their top ahead."""
    return " ".join([shown_ratio(top), shown_ways(ways)])


def told_change(days, values):
    """The answer to change, or NoName, NoChange, TooMany."""
    return shown_words(days.change(change_of(days.ring(), values[2:])))


def change_of(ring, values):
    """What is told as a change of the ring by the word of its kind and what follows, or NoName."""
    if values[0] == "more":
        return ("more", tuple(values[1:]))
    if values[0] == "room":
        return tuple(values)
    return (values[0], number_of_ask(ring, values[1])) + tuple(values[2:])


def number_of_ask(ring, name):
    """The number of the ask that has a name, or NoName."""
    for k, ask in enumerate(ring[1]):
        if ask[0] == name:
            return k
    raise NoName("no ask has the name")


def told_undo(days, values):
    """The answer to undo, or NoDay."""
    days.undo()
    return OK


def told_now(days, values):
    """The answer to now."""
    return shown_in_row(days.ring())


def told_ways(days, values):
    """The answer to ways."""
    return shown_with_top(days.top(), days.ways())


OF_RINGS = {
    "shown": told_shown,
    "least": told_least,
    "cut": told_cut,
    "fits": told_fits,
    "more": told_more,
    "near": told_near,
    "best": told_best,
}
OF_DAYS = {
    "change": told_change,
    "undo": told_undo,
    "now": told_now,
    "ways": told_ways,
}


class Desk:
    """Rings that stand by names, and days of some of them."""

    def __init__(self):
        self.rings = {}
        self.running = {}

    def say(self, row):
        """The answer to a row, of anything, or what refuses it."""
        if not isinstance(row, str) or "\n" in row:
            raise NoRow("a row is a text without a line feed")
        if row.startswith("ring "):
            return self.put_ring(row.split(" ", 2))
        values = values_in(row)
        if values[0] == "names":
            return shown_words(sorted(self.rings))
        return self.answer_by_name(values[1], values)

    def put_ring(self, words):
        """The ring of a text stands by a name; NoRow, NoText."""
        if len(words) != 3 or not is_name(words[1]):
            raise NoRow("a ring is told with its name and its text")
        self.rings[words[1]] = read_ring(words[2].replace(LINE, "\n"))
        self.running.pop(words[1], None)
        return OK

    def answer_by_name(self, name, values):
        """The answer to a row that names a ring, or NoName, NoDay, and as the rows tell."""
        if name not in self.rings:
            raise NoName("no ring stands by the name")
        if values[0] == "drop":
            self.rings.pop(name)
            self.running.pop(name, None)
            return OK
        if values[0] == "days":
            self.running[name] = Days(self.rings[name])
            return shown_ratio(self.running[name].top())
        if values[0] in OF_RINGS:
            return OF_RINGS[values[0]](self.rings[name], values)
        if name not in self.running:
            raise NoDay("there are no days of the ring")
        return OF_DAYS[values[0]](self.running[name], values)

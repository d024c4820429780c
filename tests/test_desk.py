"""[14.2], [14.3] The desk: rows of text and their answers."""

import random
import re
import unittest

from ringloads.best import best_ways
from ringloads.cuts import greatest_cut
from ringloads.days import Days
from ringloads.desk import Desk
from ringloads.errors import LoadError, NoChange, NoDay, NoName, NoRow, NoText, TooMany
from ringloads.leasts import least_top
from ringloads.parting import fitting, most_more
from ringloads.rounding import near_whole
from tests.by_hand import best_number
from tests.samples import full_rings, long_rings, many_rings, most_shown, small_ratio, small_rings, told
from tests.test_days import some_change
from tests.test_search import rings_of_seven
from tests.texts_by_hand import no_texts, number_by_words, ratio_by_hand, ring_by_hand, spoilt_texts

TEXT = "rooms 1 3/2 12; ask ann 0 1 3/4; ask bob 2 1 5"
OF_DAYS = ("change", "undo", "now", "ways")


def ratio_text(one):
    return str(one[0]) if one[1] == 1 else f"{one[0]}/{one[1]}"


def ring_text(ring):
    """A ring's writing in one row."""
    rows = ["rooms " + " ".join([ratio_text(room) for room in ring[0]])]
    rows.extend([f"ask {name} {one} {other} {ratio_text(size)}" for name, one, other, size in ring[1]])
    return "; ".join(rows)


def listed(words):
    return " ".join(words) if words else "-"


def change_row(ring, change):
    """The words of a change in a desk's row."""
    if change[0] == "more":
        name, one, other, size = change[1]
        return f"more {name} {one} {other} {ratio_text(size)}"
    if change[0] == "room":
        return f"room {change[1]} {ratio_text(change[2])}"
    return " ".join([change[0], ring[1][change[1]][0]] + [ratio_text(size) for size in change[2:]])


def is_name(word):
    return re.fullmatch("[a-z]{1,8}", word) is not None


def fits_kinds(words, kinds):
    """Whether words are as many as kinds and each of its kind: n a name, w a whole number, r a fraction, t a top."""
    if len(words) != len(kinds):
        return False
    for word, kind in zip(words, kinds):
        right = {
            "n": is_name(word), "w": number_by_words(word, 100) is not None, "r": ratio_by_hand(word) is not None,
            "t": ratio_by_hand(word) is not None and not word.startswith("-"),
        }
        if not right[kind]:
            return False
    return True


KINDS = {
    "shown": "n", "drop": "n", "names": "", "least": "n", "cut": "n", "fits": "nt", "more": "nwwt", "near": "n", "best": "n",
    "days": "n", "undo": "n", "now": "n", "ways": "n",
}
CHANGE_KINDS = {"more": "nwwr", "gone": "n", "size": "nr", "room": "wr"}


def is_row(row):
    """Whether a thing is a row of the desk, by the points' words."""
    if not isinstance(row, str) or "\n" in row:
        return False
    words = row.split(" ")
    if words[0] == "ring":
        return len(words) >= 3 and is_name(words[1])
    if words[0] == "change":
        return len(words) > 2 and is_name(words[1]) and words[2] in CHANGE_KINDS and fits_kinds(words[3:], CHANGE_KINDS[words[2]])
    return words[0] in KINDS and fits_kinds(words[1:], KINDS[words[0]])


class DeskByHand:
    """What the desk is to answer: a text, or the class that refuses, by the functions of the named points."""

    def __init__(self):
        self.rings = {}
        self.days = {}

    def say(self, row):
        if not is_row(row):
            return NoRow
        words = row.split(" ")
        if words[0] == "names":
            return listed(sorted(self.rings))
        name = words[1]
        if words[0] == "ring":
            ring = ring_by_hand(row[len("ring ") + len(name) + 1:].replace("; ", "\n"))
            if type(ring) is int:
                return NoText
            self.rings[name] = ring
            self.days.pop(name, None)
            return "ok"
        if name not in self.rings:
            return NoName
        if words[0] in OF_DAYS:
            return self.of_days(words, self.days[name]) if name in self.days else NoDay
        return self.of_ring(words, self.rings[name])

    def of_ring(self, words, ring):
        if words[0] == "shown":
            return ring_text(ring)
        if words[0] == "drop":
            del self.rings[words[1]]
            self.days.pop(words[1], None)
            return "ok"
        if words[0] == "least":
            return ratio_text(least_top(ring)[0])
        if words[0] == "cut":
            shown, (g, h) = greatest_cut(ring)
            return f"{ratio_text(shown)} {g} {h}"
        if words[0] == "fits":
            return {"sending": "yes", "cut": "no"}[fitting(ring, ratio_by_hand(words[2]))[0]]
        if words[0] == "more":
            one, other = int(words[2]), int(words[3])
            if one == other or one >= len(ring[0]) or other >= len(ring[0]):
                return NoRow
            found = most_more(ring, one, other, ratio_by_hand(words[4]))
            return ratio_text(found[1]) if found[0] == "most" else "none"
        if words[0] == "near":
            ways, top, rounding, least = near_whole(ring)
            return f"{ratio_text(top)} {listed(ways)}"
        if len(ring[1]) > 7:
            return TooMany
        if words[0] == "best":
            top, ways, tree = best_ways(ring)
            return f"{ratio_text(top)} {listed(ways)}"
        self.days[words[1]] = Days(ring)
        return ratio_text(self.days[words[1]].top())

    def of_days(self, words, days):
        if words[0] == "now":
            return ring_text(days.ring())
        if words[0] == "ways":
            return f"{ratio_text(days.top())} {listed(days.ways())}"
        if words[0] == "undo":
            if days.count() == 0:
                return NoDay
            days.undo()
            return "ok"
        if words[2] in ("gone", "size"):
            names = [ask[0] for ask in days.ring()[1]]
            if words[3] not in names:
                return NoName
            change = (words[2], names.index(words[3])) + tuple([ratio_by_hand(word) for word in words[4:]])
        elif words[2] == "room":
            change = ("room", int(words[3]), ratio_by_hand(words[4]))
        else:
            change = ("more", (words[3], int(words[4]), int(words[5]), ratio_by_hand(words[6])))
        try:
            return listed(days.change(change))
        except (NoChange, TooMany) as error:
            return type(error)


class Desks(unittest.TestCase):
    def setUp(self):
        self.desk = Desk()
        self.model = DeskByHand()

    def say(self, row):
        """Say a row to the desk and to the one by hand; check that both tell the same; tell it."""
        asked = self.model.say(row)
        if isinstance(asked, str):
            answer = self.desk.say(row)
            self.assertIs(type(answer), str)
            self.assertEqual(answer, asked, row)
        else:
            with self.assertRaises(asked, msg=repr(row)) as caught:
                self.desk.say(row)
            self.assertIs(type(caught.exception), asked, row)
            self.assertIsInstance(caught.exception, LoadError)
        return asked

    def tells(self, row, answer):
        self.assertEqual(self.say(row), answer, row)

    def state(self):
        """All that can be told of what the desk keeps, as it stands."""
        names = self.say("names")
        rows = []
        for name in names.split(" "):
            if names != "-":
                rows.extend([self.say(f"shown {name}"), self.say(f"now {name}"), self.say(f"ways {name}")])
        return [names] + rows

    def refused(self, row, error):
        before = self.state()
        for step in range(2):
            self.assertIs(self.say(row), error, row)
        self.assertEqual(self.state(), before, row)


class Rows(Desks):
    def test_rings_by_names(self):
        self.tells("names", "-")
        self.tells("ring b " + TEXT, "ok")
        self.tells("names", "b")
        self.tells("ring abcdefgh rooms 1 1", "ok")
        self.tells("ring a rooms 2 1", "ok")
        self.tells("names", "a abcdefgh b")
        self.tells("shown b", TEXT)
        self.tells("shown abcdefgh", "rooms 1 1")
        self.tells("ring a " + TEXT, "ok")
        self.tells("shown a", TEXT)
        self.tells("drop b", "ok")
        self.tells("names", "a abcdefgh")
        self.refused("shown b", NoName)
        self.refused("drop b", NoName)
        self.tells("drop a", "ok")
        self.tells("drop abcdefgh", "ok")
        self.tells("names", "-")

    def test_answers_of_rings(self):
        self.say("ring a " + TEXT)
        self.tells("least a", "23/10")
        self.tells("cut a", "23/10 0 1")
        self.tells("fits a 23/10", "yes")
        self.tells("fits a 9/4", "no")
        self.tells("fits a 0", "no")
        self.tells("more a 0 1 23/10", "0")
        self.tells("more a 0 2 12/5", "137/5")
        self.tells("more a 0 1 1", "none")
        self.tells("best a", "10/3 on back")
        self.assertIn(self.say("near a"), ("10/3 on back", "23/4 on on", "23/6 back back", "5 back on"))

    def test_days(self):
        self.say("ring a rooms 1 1; ask d 0 1 1; ask b 0 1 1; ask c 0 1 1; ask e 0 1 1")
        self.tells("days a", "2")
        self.assertEqual(len(self.say("change a room 0 1/99").split(" ")), 2)
        self.tells("ways a", "4 back back back back")
        self.tells("change a gone b", "-")
        self.tells("now a", "rooms 1/99 1; ask d 0 1 1; ask c 0 1 1; ask e 0 1 1")
        self.tells("change a size c 7/2", "-")
        self.tells("change a more zz 1 0 5", "-")
        self.tells("now a", "rooms 1/99 1; ask d 0 1 1; ask c 0 1 7/2; ask e 0 1 1; ask zz 1 0 5")
        self.tells("change a room 1 1/999999", "d c e zz")
        self.tells("shown a", "rooms 1 1; ask d 0 1 1; ask b 0 1 1; ask c 0 1 1; ask e 0 1 1")
        for step in range(5):
            self.tells("undo a", "ok")
        self.refused("undo a", NoDay)
        self.tells("now a", "rooms 1 1; ask d 0 1 1; ask b 0 1 1; ask c 0 1 1; ask e 0 1 1")

    def test_ways_of_no_asks(self):
        for places in (2, 12):
            self.say("ring a rooms" + " 1" * places)
            self.tells("near a", "0 -")
            self.tells("best a", "0 -")
            self.tells("least a", "0")
            self.tells("cut a", "0 0 0")
            self.tells("fits a 0", "yes")
            self.tells("more a 0 1 1/2", "1")
            self.tells("days a", "0")
            self.tells("ways a", "0 -")
            self.tells("change a more b 0 1 1", "-")
            self.tells("change a gone b", "-")
            self.tells("ways a", "0 -")

    def test_ring_and_drop_take_away_the_days(self):
        self.say("ring a " + TEXT)
        self.say("ring b " + TEXT)
        for row in ("ring a " + TEXT, "ring a rooms 1 1", "drop a"):
            self.say("ring a " + TEXT)
            self.say("days a")
            self.say("days b")
            self.say("change a room 0 5")
            self.tells(row, "ok")
            asked = NoName if row == "drop a" else NoDay
            for later in ("now a", "ways a", "undo a", "change a room 0 5", "change a gone nobody"):
                self.refused(later, asked)
            self.tells("now b", TEXT)
            if row == "drop a":
                self.say("ring a " + TEXT)
                self.refused("now a", NoDay)

    def test_days_in_the_stead_of_those_that_are_there(self):
        self.say("ring a " + TEXT)
        top = self.say("days a")
        self.say("change a gone ann")
        self.say("change a room 0 7")
        self.tells("days a", top)
        self.tells("now a", TEXT)
        self.refused("undo a", NoDay)

    def test_what_is_refused_leaves_days_and_rings(self):
        self.say("ring a " + TEXT)
        self.say("days a")
        self.say("change a room 0 7")
        for row, error in (
            ("ring a rooms 1", NoText), ("ring a ", NoText), ("ring a", NoRow), ("drop b", NoName), ("days b", NoName),
            ("change a room 3 1", NoChange), ("change a gone zed", NoName), ("days A", NoRow),
        ):
            self.refused(row, error)
        self.tells("now a", TEXT.replace("rooms 1 ", "rooms 7 "))
        self.tells("undo a", "ok")
        many = "rooms 1 1" + "".join([f"; ask a{'bcdefghi'[k]} 0 1 1" for k in range(8)])
        self.say("ring c " + many)
        self.refused("days c", TooMany)

    def test_too_many(self):
        seven = "rooms 1 1" + "".join([f"; ask {'abcdefgh'[k]} 0 1 1" for k in range(7)])
        self.say("ring a " + seven)
        self.tells("days a", "4")
        self.refused("change a more h 0 1 1", TooMany)
        self.refused("change a more a 0 1 1", NoChange)
        self.say("ring b " + seven + "; ask h 0 1 1")
        for row in ("best b", "days b"):
            self.refused(row, TooMany)
        self.assertNotIn(self.say("near b"), (TooMany, NoRow))
        self.tells("least b", "4")
        self.refused("now b", NoDay)

    def test_many_rings(self):
        for number, ring in enumerate(many_rings()[::4] + full_rings(2) + long_rings()):
            self.tells("ring a " + ring_text(ring), "ok")
            self.tells("shown a", ring_text(ring))
            self.tells("least a", ratio_text(told(most_shown(ring))))
            for row in ("cut a", "near a", "best a", "days a"):
                self.say(row)
            top = most_shown(ring)
            if len(ratio_text(told(top))) <= 60:
                self.tells(f"fits a {ratio_text(told(top))}", "yes")
                self.tells(f"fits a {ratio_text(told(top / 2))}", "no" if top > 0 else "yes")
                for one, other in ((0, 1), (len(ring[0]) - 1, 0), (number % len(ring[0]), 0)):
                    for more in (top, top + 1, top / 3):
                        self.say(f"more a {one} {other} {ratio_text(told(more))}")

    def test_best_and_days_have_the_best_top(self):
        chance = random.Random(1421)
        for ring in small_rings(20):
            self.say("ring a " + ring_text(ring))
            self.assertEqual(self.say("best a").split(" ")[0], ratio_text(told(best_number(ring))))
            self.tells("days a", ratio_text(told(best_number(ring))))
            days = Days(ring)
            for number in range(4):
                change = some_change(chance, days.ring(), number)
                row = "change a " + change_row(days.ring(), change)
                self.tells(row, listed(days.change(change)))
                self.tells("now a", ring_text(days.ring()))
                top = ratio_text(told(best_number(days.ring())))
                self.tells("ways a", f"{top} {listed(days.ways())}")
            for number in range(4):
                days.undo()
                self.tells("undo a", "ok")
                self.tells("ways a", f"{ratio_text(days.top())} {listed(days.ways())}")
            self.tells("shown a", ring_text(ring))

    def test_two_desks_share_nothing(self):
        other = Desk()
        self.say("ring a " + TEXT)
        self.say("days a")
        self.assertEqual(other.say("names"), "-")
        other.say("ring a rooms 1 1")
        with self.assertRaises(NoDay):
            other.say("now a")
        other.say("drop a")
        self.tells("shown a", TEXT)
        self.tells("now a", TEXT)

    def test_to_and_fro(self):
        chance = random.Random(1422)
        rings = small_rings(12) + rings_of_seven(4) + full_rings(2)
        seen = {}
        for step in range(1200):
            name = chance.choice(["a", "b", "abcdefgh"])
            rows = [f"{word} {name}" for word in ("shown", "least", "cut", "near", "best", "days", "undo", "now", "ways")]
            rows.extend([f"undo {name}", f"days {name}", f"days {name}", "names", f"ring {name} rooms 1"])
            rows.append(chance.choice([f"drop {name}", "names", "names"]))
            rows.append(f"ring {name} " + ring_text(chance.choice(rings)))
            rows.append(f"fits {name} {ratio_text(small_ratio(chance, True))}")
            rows.append(f"more {name} {chance.randrange(6)} {chance.randrange(6)} {ratio_text(small_ratio(chance, True))}")
            size = ratio_text(small_ratio(chance, True))
            changes = ["gone a", "gone b", f"size a {size}", f"size c -{size}", f"size zz {size}", f"room 1 {size}"]
            changes.extend([f"room {chance.randrange(8)} {size}", f"more zz 0 1 {size}", f"more a 1 0 {size}", "more q 5 4 3"])
            rows.extend([f"change {name} {change}" for change in changes])
            row = chance.choice(rows)
            answer = self.say(row)
            kind = "text" if isinstance(answer, str) else answer.__name__
            seen[kind] = seen.get(kind, 0) + 1
            if kind != "text":
                self.state()
        for kind in ("text", "NoRow", "NoName", "NoDay", "NoText", "NoChange", "TooMany"):
            self.assertGreater(seen.get(kind, 0), 4, seen)


class Refusals(Desks):
    def test_what_is_no_text(self):
        self.say("ring a " + TEXT)
        for thing in no_texts() + [["names"], ("names",), b"names", {"names": 1}]:
            with self.assertRaises(NoRow, msg=repr(thing)):
                self.desk.say(thing)
        self.tells("names", "a")

    def test_each_row_with_a_word_too_few_too_many_and_wrong(self):
        self.say("ring a " + TEXT)
        self.say("days a")
        rights = [
            "shown a", "drop b", "names", "least a", "cut a", "fits a 1/2", "more a 0 1 1/2", "near a", "best a", "days b",
            "change a more c 0 1 1/2", "change a gone c", "change a size c 1", "change a room 7 1", "undo a", "now a", "ways a",
        ]
        for right in rights:
            self.assertIsNot(self.say(right), NoRow)
            words = right.split(" ")
            wrong = [" ".join(words[:-1]), right + " ", " " + right, right + " a", right + " 1", right + "\n", "\n" + right]
            wrong.extend([right + "\t", right.upper(), right.replace(" ", "  ", 1) if " " in right else right + "  "])
            for number, word in enumerate(words):
                for other in ("", "A", "abcdefghi", "-1", "-0", "01", "2/4", "3/1", "+1", "100", "1.0", "a1", "-", word + "\t"):
                    row = " ".join(words[:number] + [other] + words[number + 1:])
                    if not is_row(row):
                        wrong.append(row)
                wrong.append(" ".join(words[:number] + [word + "\n"] + words[number + 1:]))
            for row in wrong:
                self.assertFalse(is_row(row), row)
                self.assertIs(self.say(row), NoRow, row)
        self.state()

    def test_rows_spoilt_sign_by_sign(self):
        self.say("ring a " + TEXT)
        self.say("days a")
        rights = [
            "shown a", "names", "fits a 1/2", "more a 0 1 12", "change a more c 0 1 1/2", "change a size ann 3",
            "change a room 1 1", "change a gone bob", "ways a", "ring b rooms 1 1; ask c 1 0 1/2",
        ]
        for right in rights:
            for row in spoilt_texts(right):
                answer = self.say(row)
                if "\n" in row:
                    self.assertIs(answer, NoRow)
                if "a" not in self.model.rings or self.model.rings["a"] != ring_by_hand(TEXT.replace("; ", "\n")):
                    self.say("ring a " + TEXT)
                if "a" not in self.model.days:
                    self.say("days a")
                while self.model.days["a"].count() > 0:
                    self.say("undo a")

    def test_texts_of_rings(self):
        for text in (
            "", " ", "rooms", "rooms 1", "rooms 1 1;", "rooms 1 1; ", "rooms 1 1;ask a 0 1 1", "rooms 1 1 ; ask a 0 1 1",
            "rooms 1 1;  ask a 0 1 1", "rooms 1 1; ask a 0 2 1", "; rooms 1 1", "rooms 1 1; ask a 0 1 1; ask a 0 1 1",
            "Rooms 1 1", "rooms 1 1 0", "rooms 1\t1", " rooms 1 1", "rooms 1 1 ", "rooms 1 1, ask a 0 1 1", "-", "ok",
            "rooms 1 " + "1" * 61, "rooms 1 1; ask a 0 1 2/4",
        ):
            self.refused("ring a " + text, NoText)
            self.refused("ring A " + text, NoRow)
        for row in ("ring", "ring ", "ring a", "ring  ", "ring  a rooms 1 1", "ring A rooms 1 1", "ring a1 rooms 1 1",
                    "ring abcdefghi rooms 1 1", "ring a rooms 1 1\nask a 0 1 1", "ring a rooms 1 1\n", " ring a rooms 1 1",
                    "ring\ta rooms 1 1", "ring rooms 1 1\n", "ringa rooms 1 1"):
            self.refused(row, NoRow)
        # A word behind ring that has the form of a name is one.
        self.refused("ring rooms 1 1", NoText)
        self.tells("ring rooms rooms 1 1", "ok")
        self.tells("ring a " + "rooms 1 " + "1" * 60, "ok")

    def test_the_row_in_no_text(self):
        for text, row in (("", 0), ("rooms 1", 0), ("rooms 1 1; ", 1), ("rooms 1 1; ask a 0 1 1; ask", 2)):
            with self.assertRaises(NoText) as caught:
                self.desk.say("ring a " + text)
            self.assertEqual(caught.exception.row, row)

    def test_the_order_where_two_are_due_at_once(self):
        # No row stands ahead of all else.
        for row in ("shown b c", "fits b -1", "more b 0 1", "change b gone 1", "change b more 1 0 1 1", "change b size a", "ways"):
            self.refused(row, NoRow)
        # Then the name of the ring, ahead of the days, of the places of more, and of the name of the ask.
        for row in ("more b 0 0 1", "more b 99 98 1", "now b", "undo b", "change b gone z", "change b room 99 -1", "days b"):
            self.refused(row, NoName)
        self.say("ring a " + TEXT)
        for row in ("more a 0 0 1", "more a 0 3 1", "more a 3 0 1", "more a 99 98 0", "more a 2 2 0"):
            self.refused(row, NoRow)
        # Then the days, ahead of the name of the ask, and of what makes no change.
        for row in ("change a gone z", "change a size z -1", "change a room 99 -1", "change a more ann 0 0 -1", "undo a", "ways a"):
            self.refused(row, NoDay)
        self.say("days a")
        # Then the name of the ask, ahead of what makes no change.
        for row in ("change a gone z", "change a size z -1", "change a size z 1", "change a gone a"):
            self.refused(row, NoName)
        for row in (
            "change a size ann -1", "change a size ann -1/2", "change a room 3 1", "change a room 0 0", "change a room 0 -1",
            "change a more ann 0 1 1", "change a more c 0 0 1", "change a more c 0 3 1", "change a more c 99 1 1",
            "change a more c 0 1 -1",
        ):
            self.refused(row, NoChange)
        self.refused("undo a", NoDay)
        self.assertIsInstance(self.say("change a size ann 0"), str)

    def test_no_change_ahead_of_too_many(self):
        self.say("ring a rooms 1 1" + "".join([f"; ask {'abcdefg'[k]} 0 1 1" for k in range(7)]))
        self.refused("change a more a 0 1 1", NoDay)
        self.say("days a")
        for row in ("change a more a 0 1 1", "change a more h 0 2 1", "change a more h 1 1 1", "change a more h 0 1 -1"):
            self.refused(row, NoChange)
        self.refused("change a more h 0 1 1", TooMany)

    def test_whole_numbers_of_at_most_two_figures(self):
        self.say("ring a rooms" + " 1" * 12)
        self.say("days a")
        for number, error in (("12", NoRow), ("99", NoRow), ("100", NoRow), ("00", NoRow), ("-1", NoRow), ("011", NoRow)):
            self.refused(f"more a {number} 0 1", error)
            self.refused(f"more a 0 {number} 1", error)
        for number, error in (("12", NoChange), ("99", NoChange), ("100", NoRow), ("00", NoRow), ("-1", NoRow)):
            self.refused(f"change a room {number} 1", error)
            self.refused(f"change a more b {number} 0 1", error)
            self.refused(f"change a more b 0 {number} 1", error)
        self.tells("more a 11 10 1", "2")
        self.tells("change a room 11 1", "-")
        self.tells("change a more b 10 11 1", "-")

    def test_fractions_as_they_are_read(self):
        self.say("ring a " + TEXT)
        self.say("days a")
        for word in ("2/4", "3/1", "-0", "01", "+1", "1/0", "1" * 61, "1/" + "1" * 61, "1.5", "", "1/2/3"):
            for row in (f"fits a {word}", f"more a 0 1 {word}", f"change a size ann {word}", f"change a room 0 {word}"):
                self.refused(row, NoRow)
            self.refused(f"change a more c 0 1 {word}", NoRow)
        for word in ("-1", "-1/2"):
            self.refused(f"fits a {word}", NoRow)
            self.refused(f"more a 0 1 {word}", NoRow)
            self.refused(f"change a size ann {word}", NoChange)
        self.tells("fits a " + "9" * 60, "yes")
        self.tells("fits a 1/" + "9" * 60, "no")
        self.assertIsInstance(self.say("change a size ann " + "9" * 60), str)

    def test_names_of_one_and_of_eight_letters(self):
        self.tells("ring a rooms 1 1; ask a 0 1 1; ask abcdefgh 0 1 1", "ok")
        self.tells("ring abcdefgh rooms 1 1", "ok")
        self.refused("ring abcdefghi rooms 1 1", NoRow)
        self.say("days a")
        self.refused("change a gone abcdefghi", NoRow)
        self.refused("change a more abcdefghi 0 1 1", NoRow)
        self.assertIsInstance(self.say("change a gone abcdefgh"), str)
        self.assertIsInstance(self.say("change a more abcdefgh 1 0 1"), str)
        self.tells("names", "a abcdefgh")

    def test_names_that_are_words_of_rows(self):
        for name in ("ring", "names", "days", "change", "ok"):
            self.tells(f"ring {name} rooms 1 1; ask more 0 1 2; ask gone 1 0 3", "ok")
            self.tells(f"days {name}", "3")
            self.assertIsInstance(self.say(f"change {name} gone gone"), str)
            self.assertIsInstance(self.say(f"change {name} size more 5"), str)
        self.tells("names", "change days names ok ring")

    def test_a_desk_that_is_new(self):
        for row in ("shown a", "drop a", "least a", "cut a", "fits a 1", "more a 0 1 1", "near a", "best a", "days a",
                    "change a gone b", "undo a", "now a", "ways a"):
            self.refused(row, NoName)
        for row in ("", " ", "hello", "NAMES", "names a", "quit", "ring", "change", "change a", "change a up b"):
            self.refused(row, NoRow)

"""Points 38, 39, 40 and, as far as read goes, 41, with points 1, 3, 4, 5, 6, 7, 17; and greywalk/reading.py."""

import re
import unittest

from greywalk.errors import BadRow, GreyError, NoHand, NoSlot, TextError, Twice
from greywalk.kinds import Kind
from greywalk.reading import read
from greywalk.scenes import Scene, world_of
from worlds import EVERY_WORDS

HEAD = ["room 100", "kind first old", "hand ann 3", "hand bob 9", "weave"]
FIRST = len(HEAD) + 1
LONG = "abcdefghijkl"
SIXTY = "9" * 60

# One row of each form, with what it is read as.
ROWS = [
    ("ann make 0 1 2", ("make", 0, 0, 1, 2)),
    ("ann get 1 2 3", ("get", 0, 1, 2, 3)),
    ("ann put 1 3 2", ("put", 0, 1, 3, 2)),
    ("bob copy 8 7", ("copy", 1, 8, 7)),
    ("bob drop 6", ("drop", 1, 6)),
    ("ann give 2 bob 8", ("give", 0, 2, 1, 8)),
    ("bob give 8 ann 2", ("give", 1, 8, 0, 2)),
    ("bob give 8 bob 7", ("give", 1, 8, 1, 7)),
    ("bob write 5 -12", ("write", 1, 5, -12)),
    ("bob read 4", ("read", 1, 4)),
    ("ann name 2 dear", ("name", 0, 2, "dear")),
    ("bob seek 3 far", ("seek", 1, 3, "far")),
    ("sweep 17", ("sweep", 17)),
]

# Each deed's row, its parts told by what they are. N is a make's number of fields.
FORMS = {
    "make": "S N BULK", "get": "S T F", "put": "T F S", "copy": "S T", "drop": "S", "give": "S G T",
    "write": "T LOAD", "read": "T", "name": "T WORD", "seek": "S WORD",
}
LEAST = {"S": "0", "T": "0", "F": "0", "N": "0", "BULK": "0", "LOAD": "-" + SIXTY, "WORD": "a", "G": "ann"}
GREATEST = {"S": "2", "T": "2", "F": "999", "N": "8", "BULK": str(10 ** 12), "LOAD": SIXTY, "WORD": LONG, "G": "ann"}

NO_NUMBERS = ["", "-1", "-0", "+1", "00", "01", "1.", "1a", "a", "one", "-", "1_0", "1e1", "0x1", "1,", "1" * 61]
NO_LOADS = ["", "-", "--1", "-0", "+1", "00", "01", "-01", "1-", "- 1", "a", "-a", "1" * 61, "-" + "1" * 61]
NO_WORDS = ["", "A", "Ann", "a1", "1", "a-b", "a_b", "-", ".", LONG + "m", "abc.", "a\tb"]


def text_of(weave=(), head=HEAD):
    return "\n".join(list(head) + list(weave))


def row_of(word, parts, hand="ann"):
    return " ".join([hand, word] + parts)


def least(word):
    return [LEAST[form] for form in FORMS[word].split(" ")]


class Reading(unittest.TestCase):
    def is_scene(self, text, room, words, hands, rows):
        scene = read(text)
        self.assertIs(type(scene), Scene)
        self.assertIs(type(scene.kind), Kind)
        self.assertEqual((scene.room, scene.kind.words(), scene.hands, scene.rows), (room, words, hands, rows))
        self.assertEqual((type(scene.room), type(scene.hands), type(scene.rows)), (int, list, list))
        for part in scene.hands + scene.rows:
            self.assertIs(type(part), tuple)
            self.assertLessEqual({type(value) for value in part}, {int, str})

    def is_weave(self, weave, rows):
        self.is_scene(text_of(weave), 100, "first old", [("ann", 3), ("bob", 9)], rows)

    def is_refused(self, text, error, row):
        with self.assertRaises(TextError) as taken:
            read(text)
        self.assertIs(type(taken.exception), error, text)
        self.assertEqual(taken.exception.row, row, text)
        self.assertIs(type(taken.exception.row), int)
        self.assertIsInstance(taken.exception, GreyError)

    def weave_is_refused(self, weave, error, number=1):
        """A weave is refused in its row of that number, from 1."""
        self.is_refused(text_of(weave), error, len(HEAD) + number)


class Heads(Reading):
    def head(self, room="room 4", kind="kind last", hands=("hand ann 3",), weave="weave"):
        return [room, kind] + list(hands) + [weave]

    def test_the_shortest_text(self):
        self.is_scene("room 4\nkind last\nhand a 3\nweave", 4, "last", [("a", 3)], [])

    def test_rooms(self):
        for room in (4, 5, 10, 99, 10 ** 15 - 1, 10 ** 15):
            self.is_scene(text_of([], self.head(f"room {room}")), room, "last", [("ann", 3)], [])
        for room in ["0", "1", "2", "3", str(10 ** 15 + 1), SIXTY, "04", "4 ", " 4", "4\t", "4 4"] + NO_NUMBERS:
            self.is_refused(text_of([], self.head("room " + room)), BadRow, 1)

    def test_rows_that_are_no_room(self):
        for row in ("", "room", "room ", " room 4", "room  4", "room\t4", "Room 4", "rooms 4", "4", "4 room",
                    "kind last", "weave", "hand ann 3", "sweep 4", "room 4 room 4"):
            self.is_refused(text_of([], self.head(row)), BadRow, 1)

    def test_kinds(self):
        for words in EVERY_WORDS:
            self.is_scene(text_of([], self.head(kind="kind " + words)), 4, words, [("ann", 3)], [])

    def test_rows_that_are_no_kind(self):
        for row in ("", "kind", "kind ", "kind  last", " kind last", "kind last ", "kind\tlast", "kind last  old",
                    "kind last new old", "kind last old old", "kind old", "kind old last", "kind Last", "kinds last",
                    "last", "kind last old new ", "kind first each", "kind first\told", "room 4", "hand ann 3", "weave",
                    "kind 0", "kind first 1", "kind kind first"):
            self.is_refused(text_of([], self.head(kind=row)), BadRow, 2)

    def test_slots(self):
        for many in range(3, 10):
            self.is_scene(text_of([], self.head(hands=[f"hand ann {many}"])), 4, "last", [("ann", many)], [])
        for many in ["0", "1", "2", "10", "11", "99", "03", "3 ", " 3", "3\t", "3 3", SIXTY] + NO_NUMBERS:
            self.is_refused(text_of([], self.head(hands=["hand ann " + many])), BadRow, 3)

    def test_names(self):
        for name in ("a", "z", "az", LONG, "hand", "weave", "room", "kind", "sweeper", "swee", "last") + tuple(FORMS):
            self.is_scene(text_of([], self.head(hands=[f"hand {name} 3"])), 4, "last", [(name, 3)], [])
        for name in NO_WORDS + ["sweep"]:
            self.is_refused(text_of([], self.head(hands=[f"hand {name} 3"])), BadRow, 3)
            self.is_refused(text_of([], self.head(hands=["hand bob 3", f"hand {name} 3"])), BadRow, 4)

    def test_rows_that_are_no_hand(self):
        for row in ("", "hand", "hand ann", "hand 3", "hand 3 ann", " hand ann 3", "hand  ann 3", "hand ann  3",
                    "hand ann 3 ", "hand\tann 3", "hand ann\t3", "Hand ann 3", "ann 3", "hand ann 3 3", "hands ann 3",
                    "room 4", "kind last", "sweep 1", "ann drop 0"):
            self.is_refused(text_of([], self.head(hands=[row])), BadRow, 3)
            self.is_refused(text_of([], self.head(hands=["hand bob 3", row])), BadRow, 4)

    def test_one_to_five_hands(self):
        names = ["ann", "bob", "cid", "dot", "eve"]
        for many in range(1, 6):
            hands = [(name, 3 + number) for number, name in enumerate(names[:many])]
            rows = [f"hand {name} {slots}" for name, slots in hands]
            self.is_scene(text_of([], self.head(hands=rows)), 4, "last", hands, [])
            self.is_scene(text_of(["sweep 1"], self.head(hands=rows)), 4, "last", hands, [("sweep", 1)])

    def test_no_hand(self):
        self.is_refused(text_of([], self.head(hands=[])), BadRow, 3)
        self.is_refused(text_of(["weave"], self.head(hands=[])), BadRow, 3)
        self.is_refused(text_of(["hand ann 3"], self.head(hands=[])), BadRow, 3)

    def test_six_hands(self):
        five = [f"hand {name} 3" for name in ("ann", "bob", "cid", "dot", "eve")]
        for sixth in ("hand fay 3", "hand ann 3", "hand sweep 3", "hand", "", "sweep 1"):
            self.is_refused(text_of([], self.head(hands=five + [sixth])), BadRow, 8)

    def test_a_name_that_was_told_already(self):
        self.is_refused(text_of([], self.head(hands=["hand ann 3", "hand ann 3"])), Twice, 4)
        self.is_refused(text_of([], self.head(hands=["hand ann 3", "hand ann 4"])), Twice, 4)
        self.is_refused(text_of([], self.head(hands=["hand ann 3", "hand bob 3", "hand ann 3"])), Twice, 5)
        self.is_refused(text_of([], self.head(hands=["hand ann 3", "hand bob 3", "hand bob 3"])), Twice, 5)
        five = ["hand ann 3", "hand bob 3", "hand cid 3", "hand dot 3"]
        for row in five:
            self.is_refused(text_of([], self.head(hands=five + [row])), Twice, 7)

    def test_a_bad_row_goes_ahead_of_a_name_told_twice(self):
        for row in ("hand ann 2", "hand ann 10", "hand ann", "hand ann 3 ", "hand ann 03"):
            self.is_refused(text_of([], self.head(hands=["hand ann 3", row])), BadRow, 4)

    def test_rows_that_are_no_weave(self):
        for row in ("", "weave ", " weave", "Weave", "weaves", "weave 1", "weave\t", "sweep 1", "ann drop 0"):
            self.is_refused(text_of([], self.head(weave=row)), BadRow, 4)

    def test_a_text_that_ends_at_each_of_its_rows(self):
        rows = self.head(hands=["hand ann 3", "hand bob 3"])
        for many in range(1, len(rows)):
            self.is_refused("\n".join(rows[:many]), BadRow, many + 1)
        self.is_scene("\n".join(rows), 4, "last", [("ann", 3), ("bob", 3)], [])

    def test_a_text_that_ends_behind_five_hands(self):
        rows = ["room 4", "kind last"] + [f"hand {name} 3" for name in ("ann", "bob", "cid", "dot", "eve")]
        self.is_refused("\n".join(rows), BadRow, 8)

    def test_a_line_end_behind_the_last_row(self):
        rows = self.head()
        for many in range(1, len(rows)):
            self.is_refused("\n".join(rows[:many]) + "\n", BadRow, many + 1)
        self.is_refused("\n".join(rows) + "\n", BadRow, 5)
        self.is_refused(text_of(["sweep 1"], rows) + "\n", BadRow, 6)

    def test_the_empty_text_and_others_of_line_ends_and_blanks(self):
        for text in ("", "\n", "\n\n\n", " ", "\t", " \n", "\n" + text_of([], self.head())):
            self.is_refused(text, BadRow, 1)

    def test_rows_in_another_order(self):
        self.is_refused("kind last\nroom 4\nhand ann 3\nweave", BadRow, 1)
        self.is_refused("room 4\nhand ann 3\nkind last\nweave", BadRow, 2)
        self.is_refused("room 4\nkind last\nweave\nhand ann 3", BadRow, 3)
        self.is_refused("room 4\nroom 4\nkind last\nhand ann 3\nweave", BadRow, 2)
        self.is_refused("room 4\nkind last\nkind last\nhand ann 3\nweave", BadRow, 3)
        self.is_refused("room 4\nkind last\nhand ann 3\nweave\nhand bob 3", BadRow, 5)
        self.is_refused("room 4\nkind last\nhand ann 3\nweave\nweave", BadRow, 5)

    def test_other_ends_of_lines_are_no_line_ends(self):
        self.is_refused("room 4\r\nkind last\r\nhand ann 3\r\nweave", BadRow, 1)


class Weaves(Reading):
    def test_each_row(self):
        for text, row in ROWS:
            self.is_weave([text], [row])
        self.is_weave([text for text, row in ROWS], [row for text, row in ROWS])

    def test_a_row_many_times(self):
        self.is_weave(["sweep 1"] * 3 + ["ann drop 0"] * 2, [("sweep", 1)] * 3 + [("drop", 0, 0)] * 2)

    def test_least_and_greatest(self):
        self.is_weave([row_of(word, least(word)) for word in FORMS], [
            ("make", 0, 0, 0, 0), ("get", 0, 0, 0, 0), ("put", 0, 0, 0, 0), ("copy", 0, 0, 0), ("drop", 0, 0),
            ("give", 0, 0, 0, 0), ("write", 0, 0, -int(SIXTY)), ("read", 0, 0), ("name", 0, 0, "a"),
            ("seek", 0, 0, "a")])
        self.is_weave([row_of(word, [GREATEST[form] for form in FORMS[word].split(" ")]) for word in FORMS], [
            ("make", 0, 2, 8, 10 ** 12), ("get", 0, 2, 2, 999), ("put", 0, 2, 999, 2), ("copy", 0, 2, 2),
            ("drop", 0, 2), ("give", 0, 2, 0, 2), ("write", 0, 2, int(SIXTY)), ("read", 0, 2), ("name", 0, 2, LONG),
            ("seek", 0, 2, LONG)])
        self.is_weave(["sweep 1", "sweep 9999"], [("sweep", 1), ("sweep", 9999)])

    def test_every_number_of_fields_and_every_slot(self):
        for many in range(9):
            self.is_weave([f"bob make {many} {many} {many}"], [("make", 1, many, many, many)])

    def test_each_part_one_beyond_its_bound_or_ill_written(self):
        beyond = {
            "S": ["1000"] + NO_NUMBERS, "T": ["1000"] + NO_NUMBERS, "F": ["1000"] + NO_NUMBERS,
            "N": ["9", "10"] + NO_NUMBERS, "BULK": [str(10 ** 12 + 1)] + NO_NUMBERS, "LOAD": NO_LOADS,
            "WORD": NO_WORDS, "G": NO_WORDS,
        }
        for word in FORMS:
            for number, form in enumerate(FORMS[word].split(" ")):
                for part in beyond[form]:
                    parts = least(word)
                    parts[number] = part
                    self.weave_is_refused([row_of(word, parts)], BadRow)

    def test_loads(self):
        for load in (0, 1, 9, 10, -1, -9, -10, 10 ** 59, -10 ** 59, 2 ** 64):
            self.is_weave([f"ann write 0 {load}"], [("write", 0, 0, load)])

    def test_words(self):
        for word in ("a", "z", "ann", "sweep", "make", "weave", "old", LONG):
            self.is_weave([f"ann name 0 {word}", f"bob seek 0 {word}"], [("name", 0, 0, word), ("seek", 1, 0, word)])

    def test_steps(self):
        for steps in ["0", "10000", "99999", "01", "1 ", " 1", "1\t", "1 1", "ann"] + NO_NUMBERS:
            self.weave_is_refused(["sweep " + steps], BadRow)
        for row in ("sweep", " sweep 1", "sweep  1", "sweep\t1", "Sweep 1", "sweeps 1", "sweep sweep 1", "1 sweep"):
            self.weave_is_refused([row], BadRow)

    def test_nobody_is_called_sweep(self):
        for word in FORMS:
            self.weave_is_refused([row_of(word, least(word), "sweep")], BadRow)
        self.weave_is_refused(["ann sweep 1"], BadRow)
        self.weave_is_refused(["ann sweep"], BadRow)

    def test_the_second_hand_of_a_give_called_sweep_is_a_hand_that_is_not_there(self):
        self.weave_is_refused(["ann give 0 sweep 0"], NoHand)

    def test_blanks_and_tabs(self):
        for text, row in ROWS:
            self.weave_is_refused([" " + text], BadRow)
            self.weave_is_refused([text + " "], BadRow)
            self.weave_is_refused(["\t" + text], BadRow)
            self.weave_is_refused([text + "\t"], BadRow)
            for place, sign in enumerate(text):
                if sign == " ":
                    self.weave_is_refused([text[:place] + " " + text[place:]], BadRow)
                    self.weave_is_refused([text[:place] + "\t" + text[place + 1:]], BadRow)
                    self.weave_is_refused([text[:place] + text[place + 1:]], BadRow)

    def test_parts_too_many_and_too_few(self):
        for text, row in ROWS:
            parts = text.split(" ")
            for more in ("0", "a", "ann", "sweep"):
                self.weave_is_refused([text + " " + more], BadRow)
            for number in range(len(parts)):
                self.weave_is_refused([" ".join(parts[:number] + parts[number + 1:])], BadRow)

    def test_rows_that_are_none(self):
        for row in ("", " ", "ann", "ann ", "make", "make ann 0 0 0", "ann 0", "ann step 0", "ann Drop 0",
                    "ann drops 0", "ann sweep 1", "room 4", "kind last", "hand cid 3", "weave", "# ann drop 0", "0",
                    "0 drop 0", "Ann drop 0", "ann drop 0;", "ann made 0 0 0"):
            self.weave_is_refused([row], BadRow)

    def test_an_empty_row(self):
        self.weave_is_refused(["", "sweep 1"], BadRow, 1)
        self.weave_is_refused(["sweep 1", "", "sweep 1"], BadRow, 2)
        self.weave_is_refused(["sweep 1", "sweep 1", ""], BadRow, 3)

    def test_hands_called_like_words_of_the_text(self):
        head = ["room 100", "kind last", "hand make 3", "hand weave 4", "hand give 5", "hand hand 6", "weave"]
        self.is_scene(
            text_of(["make make 2 0 0", "weave give 3 give 4", "give give 4 make 2", "hand seek 5 make"], head),
            100, "last", [("make", 3), ("weave", 4), ("give", 5), ("hand", 6)],
            [("make", 0, 2, 0, 0), ("give", 1, 3, 2, 4), ("give", 2, 4, 0, 2), ("seek", 3, 5, "make")])

    def test_five_hands(self):
        names = ["eve", "dot", "cid", "bob", "ann"]
        head = ["room 100", "kind last"] + [f"hand {name} 3" for name in names] + ["weave"]
        weave = [f"{name} give 0 {other} 1" for name in names for other in names]
        rows = [("give", hand, 0, other, 1) for hand in range(5) for other in range(5)]
        self.is_scene(text_of(weave, head), 100, "last", [(name, 3) for name in names], rows)

    def test_four_hundred_rows(self):
        for text, row in ROWS:
            self.is_weave([text] * 400, [row] * 400)

    def test_the_row_behind_four_hundred(self):
        for text in [text for text, row in ROWS] + ["", "cid drop 0", "ann drop 3", "no row"]:
            self.weave_is_refused(["sweep 1"] * 400 + [text], BadRow, 401)
        self.weave_is_refused(["sweep 1"] * 500, BadRow, 401)
        self.weave_is_refused(["ann drop 0"] * 399 + ["cid drop 0", "sweep 1"], NoHand, 400)
        five = [f"hand {name} 3" for name in ("ann", "bob", "cid", "dot", "eve")]
        self.is_refused(text_of(["sweep 1"] * 401, ["room 100", "kind last"] + five + ["weave"]), BadRow, 409)

    def test_a_deed_that_the_world_would_refuse_is_read(self):
        self.is_weave(["ann read 0", "ann get 0 0 999", "ann make 0 8 1000000000000", "ann seek 0 never"],
                      [("read", 0, 0), ("get", 0, 0, 0, 999), ("make", 0, 0, 8, 10 ** 12), ("seek", 0, 0, "never")])


class NamesAndSlots(Reading):
    def test_a_hand_that_is_not_there(self):
        for word in FORMS:
            for name in ("cid", "an", "annn", "bobann", "a", LONG):
                self.weave_is_refused([row_of(word, least(word), name)], NoHand)

    def test_the_second_hand_of_a_give(self):
        for name in ("cid", "an", "annn", "sweep", LONG):
            self.weave_is_refused([f"ann give 0 {name} 0"], NoHand)
        for name in ("cid", "an", "annn", LONG):
            self.weave_is_refused([f"{name} give 0 ann 0"], NoHand)
            self.weave_is_refused([f"{name} give 0 {name} 0"], NoHand)

    def test_each_slot_of_each_deed(self):
        for word in FORMS:
            for number, form in enumerate(FORMS[word].split(" ")):
                if form in ("S", "T"):
                    for slot in ("3", "4", "9", "10", "999"):
                        parts = least(word)
                        parts[number] = slot
                        self.weave_is_refused([row_of(word, parts)], NoSlot)

    def test_the_last_slot_of_each_number_of_slots(self):
        for many in range(3, 10):
            head = ["room 100", "kind last", f"hand ann {many}", "weave"]
            for slot in range(12):
                text = text_of([f"ann drop {slot}"], head)
                if slot < many:
                    self.assertEqual(read(text).rows, [("drop", 0, slot)])
                else:
                    self.is_refused(text, NoSlot, 5)

    def test_a_field_is_no_slot(self):
        for field in (0, 3, 8, 9, 999):
            self.is_weave([f"ann get 0 1 {field}", f"ann put 0 {field} 1"],
                          [("get", 0, 0, 1, field), ("put", 0, 0, field, 1)])

    def test_the_slots_of_a_give_are_each_of_its_own_hand(self):
        self.is_weave(["ann give 2 bob 8", "bob give 8 ann 2", "bob give 8 bob 8"],
                      [("give", 0, 2, 1, 8), ("give", 1, 8, 0, 2), ("give", 1, 8, 1, 8)])
        for row in ("ann give 3 bob 0", "ann give 0 bob 9", "bob give 9 ann 0", "bob give 0 ann 3", "ann give 0 ann 3",
                    "ann give 3 ann 0", "bob give 0 bob 9", "bob give 8 ann 8", "ann give 8 bob 8"):
            self.weave_is_refused([row], NoSlot)

    def test_a_bad_row_goes_ahead_of_a_hand_that_is_not_there(self):
        for row in ("cid drop", "cid drop 1000", "cid drop 01", "cid drops 0", "cid make 0 9 0", "cid write 0 -0",
                    "cid name 0 A", "cid drop 0 ", " cid drop 0", "cid give 0 dot 1000", "cid give 0 Dot 0",
                    "ann give 1000 cid 0", "ann give 0 cid -1", "cid", "cid sweep 1"):
            self.weave_is_refused([row], BadRow)

    def test_a_bad_row_goes_ahead_of_a_slot_that_is_not_there(self):
        for row in ("ann drop 3 ", "ann drop 1000", "ann make 3 9 0", "ann make 3 0 1000000000001", "ann write 3 -0",
                    "ann get 3 1000 0", "ann get 3 0 1000", "ann name 3 A", "ann give 3 A 0"):
            self.weave_is_refused([row], BadRow)

    def test_a_hand_that_is_not_there_goes_ahead_of_a_slot(self):
        for row in ("cid drop 999", "ann give 3 cid 0", "ann give 0 cid 999", "cid give 999 ann 3", "cid give 3 dot 3",
                    "ann give 3 sweep 3"):
            self.weave_is_refused([row], NoHand)

    def test_the_first_row_from_the_top(self):
        faults = [("ann drop", BadRow), ("cid drop 0", NoHand), ("ann drop 3", NoSlot)]
        for row, error in faults:
            for other, unheard in faults:
                self.weave_is_refused([row, other], error, 1)
                self.weave_is_refused(["sweep 1", row, "sweep 1", other], error, 2)

    def test_a_fault_of_the_head_goes_ahead_of_the_weave(self):
        for row in ("ann drop", "cid drop 0", "ann drop 3"):
            for number in range(len(HEAD)):
                head = HEAD[:number] + [HEAD[number] + " "] + HEAD[number + 1:]
                self.is_refused(text_of([row], head), BadRow, number + 1)
            head = HEAD[:4] + ["hand ann 3", "weave"]
            self.is_refused(text_of([row], head), Twice, 5)

    def test_a_name_told_twice_goes_ahead_of_later_rows(self):
        head = ["room 4", "kind last", "hand ann 3", "hand ann 3", "hand cid 2", "weaves"]
        self.is_refused(text_of([], head), Twice, 4)
        self.is_refused("room 4\nkind last\nhand ann 3\nhand ann 3", Twice, 4)
        self.is_refused("room 4\nkind last\nhand ann 3\nhand cid 2\nhand ann 3", BadRow, 4)


class OwnScenes(Reading):
    def test_each_scene_is_a_new_one(self):
        text = text_of([row for row, deed in ROWS])
        first, second = read(text), read(text)
        self.assertIsNot(first, second)
        first.rows.clear()
        first.hands.clear()
        self.assertEqual((second.hands, second.rows), ([("ann", 3), ("bob", 9)], [deed for row, deed in ROWS]))
        self.assertEqual(read(text).rows, second.rows)

    def test_a_world_of_what_was_read(self):
        world = world_of(read(text_of([])))
        self.assertEqual((world.heap.room, world.kind.words()), (100, "first old"))
        self.assertEqual([(hand.name, hand.slots) for hand in world.hands], [("ann", [None] * 3), ("bob", [None] * 9)])


NUMBER = "(0|[1-9][0-9]{0,59})"
PATTERNS = {"S": NUMBER, "T": NUMBER, "F": NUMBER, "N": NUMBER, "BULK": NUMBER, "LOAD": "(0|-?[1-9][0-9]{0,59})",
            "WORD": "([a-z]{1,12})", "G": "([a-z]{1,12})"}
MOST = {"S": 999, "T": 999, "F": 999, "N": 8, "BULK": 10 ** 12}


def judged(text):
    """What a text is read as, found in another way than the program's: all rows are judged at once, by patterns."""
    rows = text.split("\n")
    hands = []
    for row in rows[2:7]:
        found = re.fullmatch("hand ([a-z]{1,12}) ([3-9])", row)
        if found is None or found[1] == "sweep":
            break
        hands.append((found[1], int(found[2])))
    faults = []
    room = re.fullmatch("room " + NUMBER, rows[0])
    if room is None or not 4 <= int(room[1]) <= 10 ** 15:
        faults.append((1, 0, BadRow))
    if len(rows) < 2 or rows[1] not in ["kind " + words for words in EVERY_WORDS]:
        faults.append((2, 0, BadRow))
    for number, hand in enumerate(hands):
        if hand[0] in [name for name, many in hands[:number]]:
            faults.append((number + 3, 1, Twice))
    place = 2 + len(hands)
    if not hands or len(rows) <= place or rows[place] != "weave":
        faults.append((place + 1, 0, BadRow))
    weave = [judged_row(row, dict(hands)) for row in rows[place + 1:]]
    for number, (rank, answer) in enumerate(weave):
        if number == 400:
            faults.append((place + 2 + number, 0, BadRow))
        elif rank is not None:
            faults.append((place + 2 + number, rank, answer))
    if faults:
        row, rank, error = min(faults, key=lambda fault: fault[:2])
        return (error, row)
    order = [name for name, many in hands]
    return (int(room[1]), rows[1][5:], hands, [in_order(row, order) for rank, row in weave])


def judged_row(row, hands):
    """A pair of None and a row with the hands' names in it, or of a rank and an error."""
    if re.fullmatch("sweep [1-9][0-9]{0,3}", row):
        return (None, ("sweep", int(row[6:])))
    for word in FORMS:
        forms = FORMS[word].split(" ")
        found = re.fullmatch(" ".join(["([a-z]{1,12})", word] + [PATTERNS[form] for form in forms]), row)
        if found and found[1] != "sweep":
            parts = [part if form in ("WORD", "G") else int(part) for form, part in zip(forms, found.groups()[1:])]
            if any([form in MOST and part > MOST[form] for form, part in zip(forms, parts)]):
                return (0, BadRow)
            names = [found[1]] + [part for form, part in zip(forms, parts) if form == "G"]
            if any([name not in hands for name in names]):
                return (1, NoHand)
            slots = [part for form, part in zip(forms, parts) if form in ("S", "T")]
            owners = names if word == "give" else [found[1]] * 2
            if any([slot >= hands[owner] for slot, owner in zip(slots, owners)]):
                return (2, NoSlot)
            return (None, (word, found[1]) + tuple(parts))
    return (0, BadRow)


def in_order(row, order):
    """A row with the hands' numbers in the stead of their names."""
    if row[0] == "sweep":
        return row
    if row[0] == "give":
        return (row[0], order.index(row[1]), row[2], order.index(row[3]), row[4])
    return (row[0], order.index(row[1])) + row[2:]


class SmallChanges(Reading):
    def answer(self, text):
        try:
            scene = read(text)
        except (BadRow, Twice, NoHand, NoSlot) as error:
            return (type(error), error.row)
        return (scene.room, scene.kind.words(), scene.hands, scene.rows)

    def test_a_text_with_one_sign_changed_left_out_or_put_in(self):
        text = "\n".join(["room 40", "kind each old new", "hand a 3", "hand ab 4", "hand weave 9", "weave"]
                         + ["a make 2 8 10", "ab get 3 0 9", "a put 1 10 2", "ab copy 3 2", "weave drop 8",
                            "ab give 3 a 2", "a write 0 -10", "ab read 0", "a name 1 ab", "a seek 2 b", "sweep 99"])
        seen = set()
        for place in range(len(text) + 1):
            for sign in ["", " ", "\n", "\t", "-", "0", "1", "9", "a", "b", "w", "A"]:
                for behind in (place, place + 1):
                    changed = text[:place] + sign + text[behind:]
                    answer = self.answer(changed)
                    self.assertEqual(answer, judged(changed), changed)
                    seen.add(answer[0])
        self.assertLessEqual({BadRow, Twice, NoHand, NoSlot}, seen)

    def test_a_text_with_rows_left_out_doubled_or_changed_about(self):
        rows = ["room 4", "kind last", "hand a 3", "hand b 9", "weave", "sweep 1", "a drop 2", "b drop 8", "c drop 0"]
        for first in range(len(rows)):
            for second in range(len(rows)):
                for changed in (rows[:first] + rows[second:], rows[:first] + [rows[second]] + rows[first:],
                                rows[:first] + [rows[second]] + rows[first + 1:]):
                    text = "\n".join(changed)
                    self.assertEqual(self.answer(text), judged(text), text)


if __name__ == "__main__":
    unittest.main()

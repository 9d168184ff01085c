"""Points 42 and 43, with points 1, 3, 4, 5, 6 and 40; and the interface's part greywalk/report.py."""

import copy
import re
import unittest

from greywalk.errors import BadRow, GreyError, TextError
from greywalk.report import event_of, event_row, heard, report

WORDS = ("made got put copied dropped given wrote read named sought refused begin walk look cut lost back pass "
         "end").split()
REFUSALS = ["empty", "field", "full", "name"]
PLAIN = [word for word in WORDS if word != "refused"]
SIXTY = 10 ** 60 - 1
THINGS = [(None, "-"), (0, "0"), (1, "1"), (7, "7"), (10, "10"), (-1, "-1"), (-10, "-10"), (10 ** 59, "1" + "0" * 59),
          (SIXTY, "9" * 60), (-SIXTY, "-" + "9" * 60)]
LISTS = [([], ""), ([0], " 0"), ([5], " 5"), ([1, 2, 3], " 1 2 3"), ([3, 0, 3, 0], " 3 0 3 0"),
         ([SIXTY], " " + "9" * 60), (list(range(1, 1001)), "".join([" " + str(number) for number in range(1, 1001)]))]

NO_NUMBERS = ["", "-", "-1", "-0", "--1", "+1", "00", "01", "007", "1.", "1a", "a", "one", "1_0", "1e1", "0x1", "1,",
              "1\t", "\t1", "1" * 61, "empty", "made", "None", "\u0661"]
NO_THINGS = ["", "--", "-0", "--1", "+1", "00", "01", "-01", "1-", "a", "-a", "1.", "1_0", "1\t", "\t", "1" * 61,
             "-" + "1" * 61, "None", "made", "\u0661"] + REFUSALS


class Texts(unittest.TestCase):
    def is_event(self, text, event):
        answer = event_of(text)
        self.assertEqual(answer, event, text)
        self.assertEqual((type(answer), type(answer[2])), (tuple, list))
        self.assertIs(type(answer[1]), type(event[1]))
        self.assertLessEqual({type(number) for number in answer[2]}, {int})

    def is_none(self, text):
        self.assertIsNone(event_of(text), text)

    def is_row(self, event, text):
        before = copy.deepcopy(event)
        answer = event_row(event)
        self.assertIs(type(answer), str)
        self.assertEqual(answer, text)
        self.assertEqual(event, before)


class EventRows(Texts):
    def test_each_word_with_each_thing_and_each_list(self):
        for word in WORDS:
            for thing, text in THINGS:
                for numbers, rest in LISTS:
                    self.is_row((word, thing, list(numbers)), word + " " + text + rest)

    def test_each_word_behind_refused(self):
        for word in REFUSALS:
            self.is_row(("refused", word, []), "refused " + word)
            for numbers, rest in LISTS:
                self.is_row(("refused", word, list(numbers)), "refused " + word + rest)


class EventsOf(Texts):
    def test_there_are_nineteen_words(self):
        self.assertEqual(len(set(WORDS)), 19)

    def test_each_word_with_each_thing_and_each_list(self):
        for word in PLAIN:
            for thing, text in THINGS:
                for numbers, rest in LISTS:
                    self.is_event(word + " " + text + rest, (word, thing, numbers))

    def test_each_word_behind_refused(self):
        for word in REFUSALS:
            for numbers, rest in LISTS:
                self.is_event("refused " + word + rest, ("refused", word, numbers))

    def test_nothing_else_is_asked(self):
        self.is_event("made - 1 2", ("made", None, [1, 2]))
        self.is_event("begin -5", ("begin", -5, []))
        self.is_event("cut 9 1", ("cut", 9, [1]))
        self.is_event("end 0", ("end", 0, []))
        self.is_event("refused name 0", ("refused", "name", [0]))

    def test_another_word(self):
        for word in ("make", "get", "mades", "ade", "Made", "MADE", "made1", "", "-", "1", "sweep", "empty", "name",
                     "none", "made,", "m", "made got", "gotput"):
            for rest in ("", " -", " 1", " 1 2", " empty"):
                self.is_none(word + rest)

    def test_no_thing(self):
        for word in WORDS:
            self.is_none(word)
            self.is_none(word + " ")

    def test_a_thing_that_the_word_does_not_have(self):
        for word in PLAIN:
            for thing in NO_THINGS:
                for rest in ("", " 1", " 1 2"):
                    self.is_none(word + " " + thing + rest)

    def test_a_thing_that_refused_does_not_have(self):
        for thing in [text for number, text in THINGS] + NO_THINGS[:-4] + ["Empty", "empt", "emptys", "slot", "refused",
                                                                        "nam", "fields", "empty,"]:
            for rest in ("", " 1"):
                self.is_none("refused " + thing + rest)

    def test_a_number_of_the_list_that_is_none(self):
        for word, thing in [(word, "1") for word in PLAIN] + [("refused", word) for word in REFUSALS]:
            for number in NO_NUMBERS:
                for parts in ([number], ["1", number], [number, "1"], ["1", number, "1"]):
                    self.is_none(" ".join([word, thing] + parts))

    def test_blanks_tabs_and_line_ends(self):
        for text in ("made 1", "walk 2 3 4", "refused full", "lost 12 0 1", "got -", "wrote -10"):
            for sign in (" ", "\t", "\n", "\r"):
                self.is_none(sign + text)
                self.is_none(text + sign)
                for place, other in enumerate(text):
                    if other == " ":
                        self.is_none(text[:place] + sign + text[place:])
                        if sign != " ":
                            self.is_none(text[:place] + sign + text[place + 1:])

    def test_texts_that_are_none(self):
        for text in ("", " ", "  ", "\n", "\t", "-", "1", "1 made 1", "(made, 1)", "made:1", "made 1, 2", "made-1"):
            self.is_none(text)

    def test_written_and_read_both_ways(self):
        for word in WORDS:
            for thing in REFUSALS if word == "refused" else [thing for thing, text in THINGS]:
                for numbers, rest in LISTS:
                    event = (word, thing, list(numbers))
                    self.assertEqual(event_of(event_row(event)), event)
                    self.assertEqual(event_row(event_of(event_row(event))), event_row(event))

    def test_its_list_is_the_asker_s_own(self):
        first = event_of("walk 1 2 3")
        first[2].append(4)
        self.assertEqual(event_of("walk 1 2 3"), ("walk", 1, [2, 3]))
        empty = event_of("made 1")
        empty[2].append(4)
        self.assertEqual(event_of("made 1"), ("made", 1, []))

    def test_texts_with_one_sign_changed_left_out_or_put_in(self):
        thing = "(?:-|0|-?[1-9][0-9]{0,59})"
        heads = "(?:(?:" + "|".join(PLAIN) + ") " + thing + "|refused (?:" + "|".join(REFUSALS) + "))"
        pattern = re.compile(heads + "(?: (?:0|[1-9][0-9]{0,59}))*")
        taken = 0
        for text in ("made 10", "got - 10", "wrote -10 0 20", "refused empty", "refused full 0 1", "lost 3 0 1"):
            for place in range(len(text) + 1):
                for sign in ["", " ", "\n", "\t", "-", "0", "1", "9", "a", "t", "d", "A"]:
                    for behind in (place, place + 1):
                        changed = text[:place] + sign + text[behind:]
                        answer = event_of(changed)
                        self.assertEqual(answer is not None, pattern.fullmatch(changed) is not None, changed)
                        if answer is not None:
                            self.assertEqual(event_row(answer), changed)
                            taken = taken + 1
        self.assertGreater(taken, 100)


LOG = [
    [("made", 1, [])],
    [("begin", 1, [1]), ("walk", 1, []), ("cut", 0, [])],
    [("refused", "empty", [])],
    [("got", None, [])],
    [("wrote", -12, [])],
    [("pass", 0, []), ("end", 1, [1, 0, 1])],
]
TEXT = """1 made 1
2 begin 1 1
2 walk 1
2 cut 0
3 refused empty
4 got -
5 wrote -12
6 pass 0
6 end 1 1 0 1"""


class Reports(unittest.TestCase):
    def is_reported(self, log, text):
        before = copy.deepcopy(log)
        answer = report(log)
        self.assertIs(type(answer), str)
        self.assertEqual(answer, text)
        self.assertEqual(log, before)
        again = heard(text)
        self.assertEqual(again, before)
        self.assertEqual({type(events) for events in [again] + again}, {list})
        self.assertLessEqual({type(event) for events in again for event in events}, {tuple})

    def test_the_empty_log(self):
        self.is_reported([], "")

    def test_one_event(self):
        for word in PLAIN:
            for thing, text in THINGS:
                self.is_reported([[(word, thing, [])]], f"1 {word} {text}")
        for word in REFUSALS:
            self.is_reported([[("refused", word, [])]], f"1 refused {word}")

    def test_a_log(self):
        self.is_reported(LOG, TEXT)

    def test_a_list_of_many_events(self):
        events = [("pass", place, []) for place in range(9999)]
        self.is_reported([events], "\n".join([f"1 pass {place}" for place in range(9999)]))
        self.is_reported([[("made", 1, [])], events, [("made", 2, [])]],
                         "\n".join(["1 made 1"] + [f"2 pass {place}" for place in range(9999)] + ["3 made 2"]))

    def test_many_lists(self):
        log = [[("made", birth, [])] for birth in range(1, 1001)]
        self.is_reported(log, "\n".join([f"{birth} made {birth}" for birth in range(1, 1001)]))

    def test_the_same_event_again(self):
        lost = ("lost", 3, [0, 1])
        self.is_reported([[lost, lost], [lost]], "1 lost 3 0 1\n1 lost 3 0 1\n2 lost 3 0 1")

    def test_no_line_end_behind_the_last_row(self):
        self.assertFalse(report(LOG).endswith("\n"))
        self.assertEqual(report(LOG).count("\n"), 8)


class Heard(unittest.TestCase):
    def is_refused(self, text, row):
        with self.assertRaises(TextError) as taken:
            heard(text)
        self.assertIs(type(taken.exception), BadRow, text)
        self.assertEqual(taken.exception.row, row, text)
        self.assertIs(type(taken.exception.row), int)
        self.assertIsInstance(taken.exception, GreyError)

    def test_the_first_number(self):
        self.assertEqual(heard("1 made 1"), [[("made", 1, [])]])
        for number in ("0", "2", "3", "10", "-1", "01", "+1", "1.", "", "a", "-", "1" * 60, "1" * 61):
            self.is_refused(number + " made 1", 1)
            self.is_refused(number + " made 1\n1 made 1", 1)

    def test_the_next_number(self):
        ahead = "1 made 1\n2 made 2\n3 made 3\n"
        self.assertEqual(len(heard(ahead + "3 made 4")), 3)
        self.assertEqual(len(heard(ahead + "4 made 4")), 4)
        for number in ("0", "1", "2", "5", "6", "33", "34", "03", "04", "-3", "+4", "", "x", "4.", "4,", "-", "made"):
            self.is_refused(ahead + number + " made 4", 4)
            self.is_refused(ahead + number + " made 4\n4 made 4", 4)

    def test_the_second_number(self):
        for number, lists in (("1", 1), ("2", 2)):
            self.assertEqual(len(heard("1 made 1\n" + number + " made 2")), lists)
        for number in ("0", "3", "4", "01", "02", "-1", "12"):
            self.is_refused("1 made 1\n" + number + " made 2", 2)

    def test_numbers_of_more_figures(self):
        rows = [f"{number} made {number}" for number in range(1, 101)]
        self.assertEqual(len(heard("\n".join(rows))), 100)
        for number in ("0100", "99", "10", "1", "102"):
            place = 101
            self.is_refused("\n".join(rows + [number + " made 1"]), place)

    def test_a_missing_number(self):
        self.is_refused("made 1", 1)
        self.is_refused("1 made 1\nmade 2", 2)
        self.is_refused("1 made 1\n made 2", 2)
        self.is_refused("1 made 1\n2", 2)
        self.is_refused("1 made 1\n2 ", 2)
        self.is_refused("1", 1)
        self.is_refused("1 ", 1)

    def test_an_event_that_is_none(self):
        for text in ("", "made", "made ", "make 1", "made 01", "made -0", "made --1", "made 1 -1", "made 1 ", " made 1",
                     "made  1", "made\t1", "made 1\t", "refused 1", "refused -", "refused", "made empty", "1 made 1",
                     "Made 1", "made " + "1" * 61, "-", "made 1 01"):
            self.is_refused("1 " + text, 1)
            self.is_refused("1 made 1\n1 " + text, 2)
            self.is_refused("1 made 1\n2 " + text + "\n2 made 2", 2)

    def test_an_empty_row(self):
        self.is_refused("\n", 1)
        self.is_refused("\n\n", 1)
        self.is_refused("\n1 made 1", 1)
        self.is_refused("1 made 1\n", 2)
        self.is_refused("1 made 1\n\n1 made 2", 2)
        self.is_refused("1 made 1\n\n2 made 2", 2)
        self.is_refused("1 made 1\n2 made 2\n\n", 3)
        self.is_refused(TEXT + "\n", 10)

    def test_blanks_and_tabs(self):
        for text in (" ", "\t", " \n1 made 1", "1\tmade 1", "1  made 1", " 1 made 1", "1 made 1 ", "1 made 1\t",
                     "1 made 1\r\n1 made 1", "1-made 1"):
            self.is_refused(text, 1)

    def test_the_first_row_from_the_top_that_must_be_refused(self):
        self.is_refused("1 made 1\n3 made 2\n1 made", 2)
        self.is_refused("1 made 1\n1 made\n3 made 2", 2)
        self.is_refused("1 made 1\n3 made\n3 made 2", 2)
        self.is_refused("1 made 1\n2 made 2\n2 made 3\n1 made 4\n\n", 4)

    def test_each_row_of_a_text_in_turn(self):
        rows = TEXT.split("\n")
        for place in range(len(rows)):
            for bad in ("", "x", rows[place] + " ", " " + rows[place], "0" + rows[place], "9 made 1", "0 made 1"):
                self.is_refused("\n".join(rows[:place] + [bad] + rows[place + 1:]), place + 1)

    def test_the_beginning_of_a_text_is_heard_too(self):
        rows = TEXT.split("\n")
        for many in range(1, len(rows) + 1):
            text = "\n".join(rows[:many])
            self.assertEqual(report(heard(text)), text)
            if many < len(rows) and rows[many][0] != "1":
                self.is_refused("\n".join(rows[many:]), 1)

    def test_its_lists_are_the_asker_s_own(self):
        first = heard(TEXT)
        lists = [id(part) for part in [first] + first] + [id(event[2]) for events in first for event in events]
        self.assertEqual(len(set(lists)), len(lists))
        first[1].pop()
        first[0][0][2].append(7)
        first.pop()
        self.assertEqual(heard(TEXT), LOG)
        heard("").append([("made", 1, [])])
        self.assertEqual(heard(""), [])

    def test_texts_with_one_sign_changed_left_out_or_put_in(self):
        text = "1 made 1\n2 begin 1 1\n2 cut 0\n3 refused full"
        taken = 0
        for place in range(len(text) + 1):
            for sign in ["", " ", "\n", "\t", "-", "0", "1", "2", "3", "a"]:
                for behind in (place, place + 1):
                    changed = text[:place] + sign + text[behind:]
                    fault = self.first_fault(changed)
                    if fault is None:
                        self.assertEqual(report(heard(changed)), changed)
                        taken = taken + 1
                    else:
                        self.is_refused(changed, fault)
        self.assertGreater(taken, 20)

    def first_fault(self, text):
        """The number of the first row that must be refused, or None, found by patterns."""
        last = 0
        for place, row in enumerate(text.split("\n")):
            found = re.fullmatch("([1-9][0-9]*) (.*)", row, re.DOTALL)
            if found is None or event_of(found[2]) is None or int(found[1]) not in (max(last, 1), last + 1):
                return place + 1
            last = int(found[1])
        return None


if __name__ == "__main__":
    unittest.main()

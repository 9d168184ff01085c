"""Points 14, 15, 16, 17 and 22, and the interface's part greywalk/kinds.py."""

import unittest

from greywalk.kinds import NEW, OLD, Each, First, Kind, Last, Looking, kind_of
from worlds import EVERY_WORDS, every_kind, lookings

SOUND = ("first old", "first old new", "each old new", "last new", "last old new")


def bits(hands):
    return sum([1 << hand for hand in hands])


class Tellings(unittest.TestCase):
    def test_the_numbers(self):
        self.assertEqual((OLD, NEW), (1, 2))
        self.assertEqual((type(OLD), type(NEW)), (int, int))


class Lookings(unittest.TestCase):
    def test_one_base_and_a_class_each(self):
        for looking, made in zip(lookings(), (First, Each, Last)):
            self.assertIsInstance(looking, Looking)
            for other in (First, Each, Last):
                self.assertEqual(isinstance(looking, other), other is made)
        self.assertIsInstance(Looking(), Looking)

    def test_words(self):
        self.assertEqual([looking.word() for looking in lookings()], ["first", "each", "last"])

    def test_needs(self):
        self.assertEqual([looking.needs() for looking in lookings()], [1, 3, 2])
        self.assertEqual([type(looking.needs()) for looking in lookings()], [int, int, int])

    def test_stays(self):
        self.assertIs(First().stays(), True)
        self.assertIs(Each().stays(), True)
        self.assertIs(Last().stays(), False)

    def test_at_begin(self):
        for hands in range(1, 6):
            answers = [looking.at_begin(hands) for looking in lookings()]
            self.assertEqual(answers, [bits(range(hands)), 0, 0])
            self.assertEqual([type(answer) for answer in answers], [int, int, int])
        self.assertEqual([First().at_begin(hands) for hands in range(1, 6)], [1, 3, 7, 15, 31])

    def test_next_look_of_first_and_last(self):
        for hands in range(1, 6):
            for looked in range(1 << hands):
                self.assertEqual(First().next_look(looked, hands), 0)
                self.assertEqual(Last().next_look(looked, hands), bits(range(hands)))
                self.assertIs(type(First().next_look(looked, hands)), int)
                self.assertIs(type(Last().next_look(looked, hands)), int)

    def test_next_look_of_each(self):
        for hands in range(1, 6):
            for looked in range(1 << hands):
                left = [hand for hand in range(hands) if bits([hand]) & looked == 0]
                answer = Each().next_look(looked, hands)
                self.assertEqual(answer, bits(left[:1]), (looked, hands))
                self.assertIs(type(answer), int)

    def test_some_next_looks_of_each(self):
        each = Each()
        self.assertEqual([each.next_look(looked, 3) for looked in range(8)], [1, 2, 1, 4, 1, 2, 1, 0])
        self.assertEqual(each.next_look(0, 5), 1)
        self.assertEqual(each.next_look(15, 5), 16)
        self.assertEqual(each.next_look(15, 4), 0)
        self.assertEqual(each.next_look(31, 5), 0)

    def test_asking_keeps_nothing(self):
        each = Each()
        self.assertEqual([each.next_look(0, 2), each.next_look(0, 2), each.next_look(1, 2)], [1, 1, 2])

    def test_by_the_names_of_the_arguments(self):
        for looking in lookings():
            self.assertEqual(looking.at_begin(hands=2), looking.at_begin(2))
            self.assertEqual(looking.next_look(looked=1, hands=2), looking.next_look(1, 2))


class Kinds(unittest.TestCase):
    def test_what_a_kind_is_made_with(self):
        for looking in lookings():
            for tells in range(4):
                kind = Kind(looking, tells)
                self.assertIs(kind.looking, looking)
                self.assertEqual(kind.tells, tells)
        kind = Kind(looking=Last(), tells=2)
        self.assertEqual((kind.looking.word(), kind.tells), ("last", 2))

    def test_words(self):
        self.assertEqual([kind.words() for kind in every_kind()], EVERY_WORDS)
        self.assertEqual(Kind(First(), OLD).words(), "first old")
        self.assertEqual(Kind(Last(), NEW).words(), "last new")
        self.assertEqual(Kind(Each(), OLD | NEW).words(), "each old new")
        self.assertEqual(Kind(Each(), 0).words(), "each")

    def test_sound(self):
        for kind in every_kind():
            self.assertIs(kind.sound(), kind.words() in SOUND, kind.words())

    def test_what_stands_there_now(self):
        kind = Kind(First(), 0)
        self.assertEqual((kind.words(), kind.sound()), ("first", False))
        kind.tells = 1
        self.assertEqual((kind.words(), kind.sound()), ("first old", True))
        kind.looking = Each()
        self.assertEqual((kind.words(), kind.sound()), ("each old", False))


class KindOf(unittest.TestCase):
    def test_each_of_the_twelve(self):
        classes = {"first": First, "each": Each, "last": Last}
        for at, text in enumerate(EVERY_WORDS):
            kind = kind_of(text)
            self.assertIsInstance(kind, Kind)
            self.assertIs(type(kind.looking), classes[text.split(" ")[0]])
            self.assertEqual(kind.tells, at % 4)
            self.assertIs(type(kind.tells), int)
            self.assertEqual(kind.words(), text)
            self.assertIs(kind.sound(), text in SOUND)

    def test_other_order_and_doubled_words(self):
        for text in (
            "first new old", "old first", "new last", "old new first", "old first new",
            "first old old", "first new new", "first old new old", "first old new new",
            "first first", "first last", "first each old", "last last new", "each old each",
        ):
            self.assertIsNone(kind_of(text), text)

    def test_other_texts(self):
        for text in ("", "old", "new", "old new", "second", "first 1", "first oldnew", "firstold", "kind first",
                     "First", "FIRST", "first Old", "first OLD", "firs", "firstt", "first ol", "first olds",
                     "first, old", "first-old", "first;", "first none", "none", "None", "0", "1", "-"):
            self.assertIsNone(kind_of(text), text)

    def test_blanks_tabs_and_line_ends(self):
        for text in ("", " ", "  ", "\n", "\t"):
            self.assertIsNone(kind_of(text), text)
        for words in EVERY_WORDS:
            for sign in " \t\n":
                self.assertIsNone(kind_of(sign + words), words)
                self.assertIsNone(kind_of(words + sign), words)
                if " " in words:
                    self.assertIsNone(kind_of(words.replace(" ", " " + sign)), words)
                    self.assertIsNone(kind_of(words.replace(" ", "")), words)
                    self.assertIsNone(kind_of(words.replace(" ", "\t")), words)

    def test_no_two_answers_have_a_thing_together(self):
        one = kind_of("first old")
        one.tells = 3
        one.looking = Last()
        other = kind_of("first old")
        self.assertEqual((other.words(), other.sound()), ("first old", True))


if __name__ == "__main__":
    unittest.main()

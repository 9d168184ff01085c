"""Point 41, with points 1, 3, 17, 37, 38 and 39 for the text's rows and words; and greywalk/writing.py."""

import unittest

from greywalk.kinds import Kind, kind_of
from greywalk.reading import read
from greywalk.scenes import Scene, quiet, with_rows
from greywalk.writing import written
from worlds import EVERY_WORDS, FIVE_HANDS, all_of, every_kind

HANDS = [("ann", 3), ("bob", 9)]
HEAD = "room 100\nkind first old\nhand ann 3\nhand bob 9\nweave"
LONG = "abcdefghijkl"
SIXTY = 10 ** 60 - 1

# Each deed's row and the sweeper's, with what each is written as.
ROWS = [
    (("make", 0, 0, 1, 2), "ann make 0 1 2"),
    (("get", 0, 1, 2, 3), "ann get 1 2 3"),
    (("put", 0, 1, 3, 2), "ann put 1 3 2"),
    (("copy", 1, 8, 7), "bob copy 8 7"),
    (("drop", 1, 6), "bob drop 6"),
    (("give", 0, 2, 1, 8), "ann give 2 bob 8"),
    (("give", 1, 8, 0, 2), "bob give 8 ann 2"),
    (("give", 1, 8, 1, 7), "bob give 8 bob 7"),
    (("write", 1, 5, -12), "bob write 5 -12"),
    (("read", 1, 4), "bob read 4"),
    (("name", 0, 2, "dear"), "ann name 2 dear"),
    (("seek", 1, 3, "far"), "bob seek 3 far"),
    (("sweep", 17), "sweep 17"),
]
LEAST = [
    (("make", 0, 0, 0, 0), "ann make 0 0 0"),
    (("get", 0, 0, 0, 0), "ann get 0 0 0"),
    (("put", 0, 0, 0, 0), "ann put 0 0 0"),
    (("copy", 0, 0, 0), "ann copy 0 0"),
    (("drop", 0, 0), "ann drop 0"),
    (("give", 0, 0, 0, 0), "ann give 0 ann 0"),
    (("write", 0, 0, -SIXTY), "ann write 0 -" + "9" * 60),
    (("read", 0, 0), "ann read 0"),
    (("name", 0, 0, "a"), "ann name 0 a"),
    (("seek", 0, 0, "a"), "ann seek 0 a"),
    (("sweep", 1), "sweep 1"),
]
GREATEST = [
    (("make", 1, 8, 8, 10 ** 12), "bob make 8 8 1000000000000"),
    (("get", 1, 8, 8, 999), "bob get 8 8 999"),
    (("put", 1, 8, 999, 8), "bob put 8 999 8"),
    (("copy", 1, 8, 8), "bob copy 8 8"),
    (("drop", 1, 8), "bob drop 8"),
    (("give", 1, 8, 1, 8), "bob give 8 bob 8"),
    (("write", 1, 8, SIXTY), "bob write 8 " + "9" * 60),
    (("read", 1, 8), "bob read 8"),
    (("name", 1, 8, LONG), "bob name 8 " + LONG),
    (("seek", 1, 8, LONG), "bob seek 8 " + LONG),
    (("sweep", 9999), "sweep 9999"),
]


def new_scene(rows=(), words="first old", hands=HANDS, room=100):
    return Scene(room, kind_of(words), list(hands), list(rows))


class Writing(unittest.TestCase):
    def is_written(self, scene, text):
        """A scene is written as a text; read, that is the same scene; and what is read is written as it was."""
        before = all_of(scene)
        answer = written(scene)
        self.assertIs(type(answer), str)
        self.assertEqual(answer, text)
        self.assertEqual(all_of(scene), before)
        again = read(answer)
        self.assertEqual(all_of(again), before)
        self.assertEqual(written(again), text)

    def weave_is_written(self, pairs):
        self.is_written(new_scene([row for row, text in pairs]), "\n".join([HEAD] + [text for row, text in pairs]))


class Heads(Writing):
    def test_no_rows(self):
        self.is_written(new_scene(), HEAD)

    def test_the_shortest_text(self):
        self.is_written(Scene(4, kind_of("last"), [("a", 3)], []), "room 4\nkind last\nhand a 3\nweave")

    def test_rooms(self):
        for room in (4, 5, 10, 99, 10 ** 14, 10 ** 15 - 1, 10 ** 15):
            self.is_written(new_scene(room=room), HEAD.replace("room 100", "room " + str(room)))

    def test_each_kind(self):
        for words in EVERY_WORDS:
            self.is_written(new_scene(words=words), HEAD.replace("first old", words))

    def test_each_kind_made_of_a_looking_and_tellings(self):
        texts = []
        for kind in every_kind():
            scene = Scene(100, kind, list(HANDS), [])
            self.is_written(scene, HEAD.replace("first old", kind.words()))
            again = read(written(scene)).kind
            self.assertIs(type(again), Kind)
            self.assertEqual((type(again.looking), again.tells), (type(kind.looking), kind.tells))
            texts.append(written(scene))
        self.assertEqual(len(set(texts)), 12)

    def test_one_to_five_hands(self):
        for many in range(1, 6):
            rows = [f"hand {name} {slots}" for name, slots in FIVE_HANDS[:many]]
            scene = new_scene(hands=FIVE_HANDS[:many])
            self.is_written(scene, "\n".join(["room 100", "kind first old"] + rows + ["weave"]))

    def test_every_number_of_slots(self):
        for many in range(3, 10):
            self.is_written(new_scene(hands=[("ann", many)]),
                            "room 100\nkind first old\nhand ann " + str(many) + "\nweave")

    def test_names_of_hands(self):
        for name in ("a", "z", LONG, "hand", "weave", "room", "kind", "make", "give", "sweeper"):
            scene = new_scene([("drop", 0, 0), ("give", 0, 0, 0, 1)], hands=[(name, 3)])
            self.is_written(scene, "\n".join(["room 100", "kind first old", "hand " + name + " 3", "weave",
                                              name + " drop 0", name + " give 0 " + name + " 1"]))


class Weaves(Writing):
    def test_each_row_alone(self):
        for pair in ROWS + LEAST + GREATEST:
            self.weave_is_written([pair])

    def test_all_rows_together(self):
        self.weave_is_written(ROWS)
        self.weave_is_written(ROWS + LEAST + GREATEST)
        self.weave_is_written(list(reversed(ROWS + LEAST + GREATEST)))

    def test_a_row_many_times(self):
        self.weave_is_written([ROWS[-1]] * 3 + [ROWS[4]] * 2 + [ROWS[-1]])

    def test_loads(self):
        for load in (0, 1, -1, 9, 10, -10, 10 ** 59, -10 ** 59, SIXTY, -SIXTY):
            self.weave_is_written([(("write", 0, 2, load), f"ann write 2 {load}")])

    def test_steps_fields_and_bulks(self):
        for number in (1, 2, 9, 10, 99, 100, 999):
            self.weave_is_written([
                (("sweep", number), f"sweep {number}"),
                (("get", 0, 0, 1, number), f"ann get 0 1 {number}"),
                (("put", 0, 0, number, 1), f"ann put 0 {number} 1"),
                (("make", 0, 0, 1, number), f"ann make 0 1 {number}"),
            ])

    def test_weak_names_are_no_hands(self):
        for word in ("ann", "bob", "sweep", "weave", "make", "a", LONG):
            self.weave_is_written([(("name", 1, 0, word), "bob name 0 " + word),
                                   (("seek", 0, 1, word), "ann seek 1 " + word)])

    def test_each_hand_s_name_for_each_deed(self):
        names = [name for name, slots in FIVE_HANDS]
        rows = []
        texts = []
        for row, text in LEAST[:-1]:
            for number, name in enumerate(names):
                rows.append((row[0], number) + row[2:])
                texts.append(name + text[3:])
        for number, name in enumerate(names):
            for taker, other in enumerate(names):
                rows.append(("give", number, 2, taker, 1))
                texts.append(f"{name} give 2 {other} 1")
        text = written(new_scene(rows, hands=FIVE_HANDS))
        self.assertEqual(text.split("\n")[8:], texts)
        self.assertEqual(read(text).rows, rows)

    def test_four_hundred_rows(self):
        rows = [ROWS[number % len(ROWS)] for number in range(400)]
        self.weave_is_written(rows)

    def test_more_than_four_hundred_rows(self):
        for many in (401, 500, 1000):
            pairs = [ROWS[number % len(ROWS)] for number in range(many)]
            text = written(new_scene([row for row, part in pairs]))
            self.assertEqual(text, "\n".join([HEAD] + [part for row, part in pairs]))

    def test_no_line_end_and_no_blank_too_much(self):
        for rows in ([], [row for row, text in ROWS]):
            for row in written(new_scene(rows)).split("\n"):
                self.assertNotEqual(row, "")
                self.assertEqual(row.split(), row.split(" "))


class Changed(Writing):
    def test_lists_that_were_changed_from_outside(self):
        scene = new_scene([row for row, text in ROWS])
        scene.rows[:] = [("give", 2, 0, 0, 1), ("sweep", 5)]
        scene.hands.append(("cid", 4))
        scene.hands[0] = ("zoe", 5)
        self.is_written(scene, "room 100\nkind first old\nhand zoe 5\nhand bob 9\nhand cid 4\nweave\n"
                               "cid give 0 zoe 1\nsweep 5")

    def test_other_values_given_from_outside(self):
        scene = new_scene([("sweep", 5)])
        scene.room = 7
        scene.kind = kind_of("each new")
        self.is_written(scene, "room 7\nkind each new\nhand ann 3\nhand bob 9\nweave\nsweep 5")

    def test_the_lists_that_it_was_made_of_were_changed(self):
        hands, rows = list(HANDS), [("drop", 0, 0)]
        scene = Scene(100, kind_of("first old"), hands, rows)
        hands.clear()
        rows.append(("sweep", 1))
        self.is_written(scene, HEAD + "\nann drop 0")

    def test_scenes_made_of_others(self):
        scene = new_scene([("drop", 0, 0), ("sweep", 3)])
        self.is_written(with_rows(scene, [("drop", 1, 8)]), HEAD + "\nann drop 0\nsweep 3\nbob drop 8")
        self.is_written(quiet(scene), HEAD + "\nann drop 0")
        self.is_written(scene, HEAD + "\nann drop 0\nsweep 3")

    def test_twice(self):
        scene = new_scene([row for row, text in ROWS])
        self.assertEqual(written(scene), written(scene))


class ReadAndWritten(Writing):
    def test_a_text_that_is_read_is_written_as_it_was(self):
        for words in EVERY_WORDS:
            for many in range(1, 6):
                rows = ["room 1000000000000000", "kind " + words]
                rows.extend([f"hand {name} {slots}" for name, slots in FIVE_HANDS[:many]])
                rows.append("weave")
                weave = []
                for name, slots in FIVE_HANDS[:many]:
                    weave.extend([f"{name} make 2 8 0", f"{name} get 0 1 999", f"{name} put 1 0 2", f"{name} copy 1 0",
                                  f"{name} drop {slots - 1}", f"{name} give {slots - 1} ann 2", f"{name} write 0 -1",
                                  f"{name} read 0", f"{name} name 2 {name}", f"{name} seek 1 sweep", "sweep 9999"])
                for text in ("\n".join(rows), "\n".join(rows + weave)):
                    self.assertEqual(written(read(text)), text)


if __name__ == "__main__":
    unittest.main()

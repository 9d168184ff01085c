"""Point 46, with points 1, 2, 3, 4, 15, 17, 22, 24, 31 and 36; and the interface's part greywalk/undoing.py."""

import unittest

from greywalk.errors import GreyError, Sound
from greywalk.kinds import kind_of
from greywalk.reading import read
from greywalk.runs import is_lost, run
from greywalk.scenes import Scene, with_rows
from greywalk.undoing import undoing
from greywalk.writing import written
from worlds import EVERY_WORDS, FIVE_HANDS, SOUND_WORDS, all_of

UNSOUND_WORDS = [words for words in EVERY_WORDS if words not in SOUND_WORDS]
BY_OLD = ["first", "first new", "each", "each new"]

# Hand 0 holds one of a ring of two cells in slot 0, and in slot 2 a cell with a bulk; one cell more is let go.
CELLS = [
    ("make", 0, 0, 2, 0), ("make", 0, 1, 1, 0), ("put", 0, 0, 1, 1), ("put", 0, 1, 0, 0), ("make", 0, 1, 0, 0),
    ("drop", 0, 1), ("make", 0, 2, 0, 9),
]


def new_scene(rows=(), words="first", many=2, room=1000):
    return Scene(room, kind_of(words), list(FIVE_HANDS[:many]), list(rows))


def tail(words, many):
    """The rows of the point's last parts, as they stand there."""
    looking = words.split(" ")[0]
    if words in BY_OLD:
        return [("make", 0, 0, 1, 0), ("make", 0, 1, 0, 0), ("put", 0, 0, 0, 1), ("drop", 0, 1),
                ("sweep", {"first": 1, "each": 2}[looking]), ("get", 0, 1, 0, 0), ("put", 0, 0, 0, 2),
                ("sweep", {"first": 2, "each": many + 1}[looking])]
    return [("make", 0, 1, 0, 0), ("sweep", 1), ("make", 0, 0, 1, 0), ("put", 0, 0, 0, 1), ("drop", 0, 1),
            ("sweep", {"last": 1, "each": many + 1}[looking])]


def looks_of(words, many):
    """The looks of a round in which no hand holds anything."""
    return many if words.startswith("each") else 0


def empty_round(words, many, places):
    """The steps of a round in which no hand holds anything: its begin, its looks, its cut, its passes, its end."""
    return 1 + looks_of(words, many) + 1 + places + 1


class Undoing(unittest.TestCase):
    def leads(self, scene, rows):
        """These rows are answered; behind the scene's own their last step tells the loss, and no deed is refused."""
        before = all_of(scene)
        answer = undoing(scene)
        self.assertEqual(answer, rows, (scene.kind.words(), before))
        self.assertIs(type(answer), list)
        self.assertLessEqual({type(row) for row in answer}, {tuple})
        self.assertEqual(all_of(scene), before)
        self.is_loss(scene, answer)

    def is_loss(self, scene, rows):
        own = run(scene)
        longer = with_rows(scene, rows)
        log = run(longer)
        self.assertTrue(is_lost(log))
        if is_lost(own):
            self.assertEqual((rows, log), ([], own))
            return
        self.assertEqual(len(log), len(longer.rows))
        self.assertEqual(log[:len(own)], own)
        for row, events in zip(rows, log[len(own):]):
            self.assertNotIn("refused", [event[0] for event in events])
            self.assertEqual(len(events), row[1] if row[0] == "sweep" else 1)
        self.assertEqual(rows[-1][0], "sweep")
        behind = [event for events in log[len(own):] for event in events]
        self.assertEqual([event[0] for event in behind].count("lost"), 1)
        self.assertEqual(behind[-1][0], "lost")


class SoundKinds(Undoing):
    def is_refused(self, scene):
        before = all_of(scene)
        with self.assertRaises(Sound) as taken:
            undoing(scene)
        self.assertIs(type(taken.exception), Sound)
        self.assertIsInstance(taken.exception, GreyError)
        self.assertEqual(all_of(scene), before)

    def test_each_sound_kind(self):
        for words in SOUND_WORDS:
            for many in range(1, 6):
                for rows in ([], CELLS, CELLS + [("sweep", 2)], CELLS + [("sweep", 9999)]):
                    self.is_refused(new_scene(rows, words, many))

    def test_deeds_that_are_refused(self):
        for words in SOUND_WORDS:
            self.is_refused(new_scene([("read", 0, 0), ("seek", 0, 0, "far"), ("make", 0, 0, 8, 10 ** 12)], words))

    def test_rows_that_lose_in_other_kinds(self):
        for words in SOUND_WORDS:
            for other in UNSOUND_WORDS:
                self.is_refused(new_scene(tail(other, 2), words))
                self.is_refused(new_scene(tail(other, 2) + [("sweep", 9999), ("read", 0, 0)], words))

    def test_ahead_of_all_else(self):
        # What comes of rows that are not there is not promised; but these are not even looked at.
        for words in SOUND_WORDS:
            for rows in ([("drop", 7, 0)], [("drop", 0, 77)], [("none",)], [None]):
                self.is_refused(new_scene(rows, words))

    def test_each_other_kind_is_not_refused(self):
        self.assertEqual(len(UNSOUND_WORDS), 7)
        for words in UNSOUND_WORDS:
            undoing(new_scene([], words))


class Rows(Undoing):
    def test_no_rows(self):
        for words in UNSOUND_WORDS:
            for many in range(1, 6):
                self.leads(new_scene([], words, many), [("sweep", empty_round(words, many, 0))] + tail(words, many))

    def test_written_out(self):
        olds = [("make", 0, 0, 1, 0), ("make", 0, 1, 0, 0), ("put", 0, 0, 0, 1), ("drop", 0, 1)]
        for words in ("first", "first new"):
            self.leads(new_scene([], words), [("sweep", 3)] + olds + [
                ("sweep", 1), ("get", 0, 1, 0, 0), ("put", 0, 0, 0, 2), ("sweep", 2)])
        for words in ("each", "each new"):
            self.leads(new_scene([], words), [("sweep", 5)] + olds + [
                ("sweep", 2), ("get", 0, 1, 0, 0), ("put", 0, 0, 0, 2), ("sweep", 3)])
        news = [("make", 0, 1, 0, 0), ("sweep", 1), ("make", 0, 0, 1, 0), ("put", 0, 0, 0, 1), ("drop", 0, 1)]
        for words in ("last", "last old"):
            self.leads(new_scene([], words), [("sweep", 3)] + news + [("sweep", 1)])
        self.leads(new_scene([], "each old"), [("sweep", 5)] + news + [("sweep", 3)])

    def test_the_loss_that_is_told(self):
        for words in UNSOUND_WORDS:
            for many in range(1, 6):
                scene = new_scene([], words, many)
                log = run(with_rows(scene, undoing(scene)))
                self.assertEqual(log[-1][-1], ("lost", 2, [0, 1]) if words in BY_OLD else ("lost", 1, [0, 0, 0]))

    def test_at_rest_with_slots_that_hold_cells(self):
        drops = [("drop", 0, 0), ("drop", 0, 2)]
        for words in UNSOUND_WORDS:
            for many in range(1, 6):
                scene = new_scene(CELLS, words, many)
                self.leads(scene, drops + [("sweep", empty_round(words, many, 4))] + tail(words, many))

    def test_the_drops_go_hand_by_hand_and_slot_by_slot(self):
        for words in UNSOUND_WORDS:
            gives = [("give", 0, 0, 1, 3), ("give", 0, 0, 1, 1), ("give", 0, 0, 4, 8), ("give", 0, 0, 2, 0),
                     ("give", 0, 0, 4, 0), ("drop", 0, 0)]
            drops = [("drop", 0, 2), ("drop", 1, 1), ("drop", 1, 3), ("drop", 2, 0), ("drop", 4, 0), ("drop", 4, 8)]
            self.leads(new_scene(CELLS + gives, words, 5),
                       drops + [("sweep", empty_round(words, 5, 4))] + tail(words, 5))

    def test_every_slot_holds_a_cell(self):
        for words in UNSOUND_WORDS:
            for many in range(1, 6):
                rows = []
                drops = []
                for hand in range(many):
                    for slot in range(FIVE_HANDS[hand][1]):
                        rows.append(("make", hand, slot, 1, 1))
                        rows.append(("put", hand, 0, 0, slot))
                        drops.append(("drop", hand, slot))
                self.leads(new_scene(rows, words, many),
                           drops + [("sweep", empty_round(words, many, len(drops)))] + tail(words, many))

    def test_at_rest_behind_rounds(self):
        for words in UNSOUND_WORDS:
            for many in range(1, 6):
                scene = new_scene(CELLS, words, many)
                whole = 0
                events = []
                while "end" not in [event[0] for event in events]:
                    whole = whole + 1
                    events = run(with_rows(scene, [("sweep", whole)]))[-1]
                self.leads(with_rows(scene, [("sweep", whole)]),
                           [("drop", 0, 0), ("drop", 0, 2), ("sweep", empty_round(words, many, 4))] + tail(words, many))
                for done in range(1, whole):
                    self.leads(with_rows(scene, [("sweep", done)]),
                               [("sweep", whole - done), ("drop", 0, 0), ("drop", 0, 2),
                                ("sweep", empty_round(words, many, 4))] + tail(words, many))

    def test_within_the_walk(self):
        self.leads(new_scene(CELLS + [("sweep", 2)], "first"), [
            ("sweep", 8), ("drop", 0, 0), ("drop", 0, 2), ("sweep", 7)] + tail("first", 2))
        self.leads(new_scene(CELLS + [("sweep", 2), ("drop", 0, 0)], "each old", 1), [
            ("sweep", 9), ("drop", 0, 2), ("sweep", 8)] + tail("each old", 1))
        self.leads(new_scene(CELLS + [("sweep", 1)], "last"), [
            ("sweep", 10), ("drop", 0, 0), ("drop", 0, 2), ("sweep", 7)] + tail("last", 2))

    def test_within_the_give(self):
        # A begin, three walks and a cut: four places are to be passed, then the round ends.
        for done, left in ((5, 5), (6, 4), (7, 3), (8, 2), (9, 1)):
            self.leads(new_scene(CELLS + [("sweep", done)], "first new"), [
                ("sweep", left), ("drop", 0, 0), ("drop", 0, 2), ("sweep", 7)] + tail("first new", 2))

    def test_cells_made_within_the_give_are_let_go_too(self):
        for words in UNSOUND_WORDS:
            sweep = ("sweep", 3 + looks_of(words, 1))
            rows = CELLS + [("drop", 0, 0), sweep, ("make", 0, 0, 1, 0), ("put", 0, 0, 0, 2)]
            answer = undoing(new_scene(rows, words, 1))
            self.assertEqual(answer[1:3], [("drop", 0, 0), ("drop", 0, 2)])
            self.assertEqual(answer[4:], tail(words, 1))
            self.is_loss(new_scene(rows, words, 1), answer)

    def test_places_of_cells_given_back_long_ago_are_passed(self):
        for words in UNSOUND_WORDS:
            rows = [("make", 0, 0, 0, 0)] * 7 + [("drop", 0, 0), ("sweep", empty_round(words, 2, 7))]
            self.leads(new_scene(rows, words), [("sweep", empty_round(words, 2, 7))] + tail(words, 2))

    def test_deeds_of_the_scene_that_are_refused(self):
        for words in UNSOUND_WORDS:
            rows = [("read", 0, 0), ("get", 1, 0, 0, 9), ("seek", 0, 0, "far"), ("make", 0, 0, 8, 10 ** 12),
                    ("make", 1, 2, 0, 0), ("put", 1, 2, 5, 0)]
            self.leads(new_scene(rows, words),
                       [("drop", 1, 2), ("sweep", empty_round(words, 2, 1))] + tail(words, 2))

    def test_a_scene_of_a_thousand_rows(self):
        for words in UNSOUND_WORDS:
            rows = [("make", 0, 1, 1, 0), ("put", 0, 1, 0, 0), ("copy", 0, 0, 1), ("drop", 0, 1)] * 250
            self.leads(new_scene(rows, words, 3, 10 ** 6),
                       [("drop", 0, 0), ("sweep", empty_round(words, 3, 250))] + tail(words, 3))


class Names(Undoing):
    def test_weak_names(self):
        for words in UNSOUND_WORDS:
            for many in range(1, 6):
                names = [("name", 0, 0, "dear"), ("name", 0, 2, "far"), ("drop", 0, 2), ("name", 0, 0, "near")]
                self.leads(new_scene(CELLS + names, words, many),
                           [("drop", 0, 0), ("sweep", empty_round(words, many, 4))] + tail(words, many))

    def test_a_name_whose_cell_is_given_back(self):
        for words in UNSOUND_WORDS:
            rows = [("make", 0, 0, 0, 0), ("name", 0, 0, "dear"), ("drop", 0, 0),
                    ("sweep", empty_round(words, 2, 1)), ("make", 1, 1, 0, 0)]
            self.leads(new_scene(rows, words),
                       [("drop", 1, 1), ("sweep", empty_round(words, 2, 1))] + tail(words, 2))

    def test_a_cell_that_a_seek_found(self):
        for words in UNSOUND_WORDS:
            rows = [("make", 0, 0, 0, 0), ("name", 0, 0, "dear"), ("drop", 0, 0), ("sweep", 1), ("seek", 1, 2, "dear")]
            answer = undoing(new_scene(rows, words))
            self.assertEqual([row for row in answer if row[0] == "drop"][0], ("drop", 1, 2))
            self.is_loss(new_scene(rows, words), answer)


class FullHeaps(Undoing):
    def test_the_least_room(self):
        for words in UNSOUND_WORDS:
            for many in range(1, 6):
                for rows, drops, places in (
                    ([], [], 0),
                    ([("make", 0, 0, 3, 0)], [("drop", 0, 0)], 1),
                    ([("make", 0, 0, 0, 3), ("name", 0, 0, "dear")], [("drop", 0, 0)], 1),
                    ([("make", 0, 0, 1, 0), ("make", 0, 0, 1, 0), ("make", 0, 0, 0, 0)], [("drop", 0, 0)], 2),
                    ([("make", 0, slot % 3, 0, 0) for slot in range(4)],
                     [("drop", 0, 0), ("drop", 0, 1), ("drop", 0, 2)], 4),
                ):
                    self.leads(new_scene(rows, words, many, 4),
                               drops + [("sweep", empty_round(words, many, places))] + tail(words, many))

    def test_a_full_heap_that_nobody_holds(self):
        for words in UNSOUND_WORDS:
            rows = [("make", 0, 0, 8, 10 ** 12), ("drop", 0, 0), ("make", 0, 0, 0, 0)]
            self.leads(new_scene(rows, words, 2, 10 ** 12 + 9),
                       [("sweep", empty_round(words, 2, 1))] + tail(words, 2))

    def test_a_full_heap_within_a_round(self):
        for words in UNSOUND_WORDS:
            for done in range(1, 6):
                scene = new_scene([("make", 0, 0, 3, 0), ("sweep", done), ("make", 0, 0, 0, 0)], words, 1, 4)
                self.is_loss(scene, undoing(scene))


class LostScenes(Undoing):
    def test_a_scene_that_is_lost_by_itself(self):
        for words in UNSOUND_WORDS:
            for many in range(1, 6):
                lost = tail(words, many)
                self.leads(new_scene(lost, words, many), [])
                self.leads(new_scene(lost + [("make", 0, 0, 0, 0)], words, many), [])
                self.leads(new_scene(lost + [("sweep", 9999), ("read", 0, 0)], words, many), [])
                # A row behind the loss is not done, and so it does not matter that its slot is not there.
                self.leads(new_scene(lost + [("drop", 0, 77)], words, many), [])
                self.leads(new_scene(CELLS + [("drop", 0, 0), ("drop", 0, 2), ("sweep", empty_round(words, many, 4))]
                                     + lost, words, many), [])

    def test_a_scene_that_is_lost_by_the_steps_to_rest(self):
        for words in UNSOUND_WORDS:
            for many in range(1, 6):
                rows = tail(words, many)
                last = rows[-1][1]
                self.leads(new_scene(rows[:-1], words, many), [("sweep", last)])
                for done in range(1, last):
                    self.leads(new_scene(rows[:-1] + [("sweep", done)], words, many), [("sweep", last - done)])

    def test_a_scene_that_would_be_lost_but_is_mended(self):
        for words in UNSOUND_WORDS:
            for slot in (0, 1):
                rows = tail(words, 2)[:-1] + [("drop", 0, slot)]
                scene = new_scene(rows, words)
                self.is_loss(scene, undoing(scene))
        scene = new_scene(tail("first", 2)[:-1] + [("drop", 0, 1)], "first")
        self.leads(scene, [("sweep", 5), ("drop", 0, 0), ("sweep", 5)] + tail("first", 2))

    def test_undone_twice(self):
        for words in UNSOUND_WORDS:
            scene = new_scene(CELLS, words)
            self.leads(with_rows(scene, undoing(scene)), [])


class Own(Undoing):
    def test_its_list_is_the_asker_s_own(self):
        for words in UNSOUND_WORDS:
            scene = new_scene(CELLS, words)
            first = undoing(scene)
            kept = list(first)
            first.clear()
            self.assertEqual(undoing(scene), kept)
            self.assertIsNot(undoing(scene), scene.rows)
        lost = new_scene(tail("last", 2), "last")
        undoing(lost).append(("sweep", 1))
        self.assertEqual(undoing(lost), [])

    def test_a_scene_that_was_changed(self):
        scene = new_scene([], "each")
        scene.rows.append(("make", 1, 0, 0, 0))
        scene.hands.append(("cid", 5))
        self.leads(scene, [("drop", 1, 0), ("sweep", empty_round("each", 3, 1))] + tail("each", 3))

    def test_its_rows_are_rows_of_a_text(self):
        for words in UNSOUND_WORDS:
            for many in range(1, 6):
                scene = new_scene(CELLS + [("sweep", 3)], words, many)
                longer = with_rows(scene, undoing(scene))
                self.assertEqual(all_of(read(written(longer))), all_of(longer))


if __name__ == "__main__":
    unittest.main()

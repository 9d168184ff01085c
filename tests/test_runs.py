"""Points 44 and 45, with points 1, 3, 4, 25, 27 to 34, 36, 37 and 40; and the interface's part greywalk/runs.py."""

import copy
import unittest

from greywalk.errors import BadRow, NoHand, NoSlot, Twice
from greywalk.kinds import kind_of
from greywalk.report import heard, report
from greywalk.reading import read
from greywalk.runs import is_lost, run, tell, tried
from greywalk.scenes import Scene, quiet, with_rows, world_of
from greywalk.sweeper import step
from worlds import EVERY_WORDS, FIVE_HANDS, all_of, do_all, new_world, plain, steps, world_in

HANDS = [("ann", 4), ("bob", 3)]
# In the kind `first`, two steps behind these rows lead to a loss.
MAKES = [("make", 0, 0, 1, 0), ("make", 0, 1, 0, 0), ("put", 0, 0, 0, 1), ("drop", 0, 1)]
LOSING = MAKES + [("sweep", 1), ("get", 0, 1, 0, 0), ("put", 0, 0, 0, 2)]
LOST = ("lost", 2, [0, 1])


def new_scene(rows, words="first old", room=1000):
    return Scene(room, kind_of(words), list(HANDS), list(rows))


def lost_world():
    """A world in which a loss was told."""
    world = new_world("first")
    for row in LOSING + [("sweep", 2)]:
        tried(world, row)
    return world


class Tried(unittest.TestCase):
    def tells(self, world, row, events):
        """A row answers these events, as a list of its own with lists of their own."""
        answer = tried(world, row)
        self.assertEqual(answer, events)
        self.assertIs(type(answer), list)
        for event in answer:
            self.assertEqual((type(event), type(event[0]), type(event[2])), (tuple, str, list))
        lists = [id(answer)] + [id(event[2]) for event in answer]
        self.assertEqual(len(set(lists)), len(lists))

    def is_refused(self, world, deed, word):
        before = plain(world)
        self.tells(world, deed, [("refused", word, [])])
        self.assertEqual(plain(world), before)


class Deeds(Tried):
    def test_each_deed_answers_its_event_alone(self):
        world = new_world()
        for deed, event in (
            (("make", 0, 0, 2, 5), ("made", 1, [])),
            (("make", 0, 1, 0, 0), ("made", 2, [])),
            (("put", 0, 0, 1, 1), ("put", None, [])),
            (("put", 0, 0, 1, 1), ("put", 2, [])),
            (("get", 0, 2, 0, 1), ("got", 2, [])),
            (("get", 0, 2, 0, 0), ("got", None, [])),
            (("copy", 0, 3, 0), ("copied", 1, [])),
            (("copy", 0, 3, 2), ("copied", None, [])),
            (("give", 0, 0, 1, 2), ("given", 1, [])),
            (("write", 1, 2, -77), ("wrote", 0, [])),
            (("read", 1, 2), ("read", -77, [])),
            (("name", 1, 2, "dear"), ("named", 1, [])),
            (("seek", 0, 3, "dear"), ("sought", 1, [])),
            (("drop", 0, 3), ("dropped", 1, [])),
            (("drop", 0, 3), ("dropped", None, [])),
        ):
            twin = copy.deepcopy(world)
            self.tells(world, deed, [event])
            do_all(twin, [deed])
            self.assertEqual(plain(world), plain(twin))

    def test_what_was_noted(self):
        for words, noted in (("first", []), ("each old", [2]), ("last new", [3]), ("each old new", [2, 3])):
            world = new_world(words)
            do_all(world, [("make", 0, 0, 1, 0), ("make", 0, 1, 0, 0), ("put", 0, 0, 0, 1), ("make", 0, 1, 0, 0)])
            world.sweeper.sense = 1
            world.sweeper.phase = "walk"
            self.tells(world, ("put", 0, 0, 0, 1), [("put", 2, noted)])

    def test_empty(self):
        for phase in ("rest", "walk", "give"):
            for deed in (("get", 0, 0, 1, 0), ("put", 0, 1, 0, 0), ("write", 0, 1, 5), ("read", 0, 1),
                         ("name", 0, 1, "dear"), ("get", 1, 0, 0, 999), ("put", 1, 0, 999, 0)):
                world = world_in(phase)
                do_all(world, [("make", 0, 0, 1, 0)])
                self.is_refused(world, deed, "empty")

    def test_field(self):
        for phase in ("rest", "walk", "give"):
            for field in (1, 2, 8, 999):
                world = world_in(phase)
                do_all(world, [("make", 0, 0, 1, 0)])
                self.is_refused(world, ("get", 0, 1, 0, field), "field")
                self.is_refused(world, ("put", 0, 0, field, 0), "field")

    def test_full(self):
        for phase in ("rest", "walk", "give"):
            world = world_in(phase, room=10)
            self.is_refused(world, ("make", 0, 0, 8, 2), "full")
            self.tells(world, ("make", 0, 0, 8, 1), [("made", 1, [])])
            self.is_refused(world, ("make", 0, 1, 0, 0), "full")
            self.is_refused(world, ("make", 0, 0, 0, 0), "full")

    def test_name(self):
        for phase in ("rest", "walk", "give"):
            world = world_in(phase)
            do_all(world, [("make", 0, 0, 1, 0), ("name", 0, 0, "dear")])
            for word in ("far", "dea", "deary", "a"):
                self.is_refused(world, ("seek", 0, 0, word), "name")
            self.tells(world, ("seek", 0, 1, "dear"), [("sought", 1, [])])

    def test_what_comes_first_of_two_refusals(self):
        world = new_world()
        self.is_refused(world, ("get", 0, 0, 0, 999), "empty")
        self.is_refused(world, ("put", 0, 0, 999, 1), "empty")

    def test_each_refusal_is_an_event_of_its_own(self):
        world = new_world()
        first = tried(world, ("read", 0, 0))
        first[0][2].append(7)
        first.append("more")
        self.tells(world, ("read", 0, 0), [("refused", "empty", [])])

    def test_the_row_stays(self):
        row = ("make", 0, 0, 1, 0)
        tried(new_world(), row)
        self.assertEqual(row, ("make", 0, 0, 1, 0))


class Sweeps(Tried):
    def test_one_step(self):
        for words in EVERY_WORDS:
            world = new_world(words)
            do_all(world, [("make", 0, 0, 0, 0), ("make", 1, 0, 0, 0), ("make", 1, 0, 0, 0)])
            twin = copy.deepcopy(world)
            for number in range(30):
                self.tells(world, ("sweep", 1), [step(twin)])
                self.assertEqual(plain(world), plain(twin))

    def test_many_steps(self):
        for words in EVERY_WORDS:
            for many in (2, 3, 5, 8, 13, 100):
                world = new_world(words)
                do_all(world, [("make", 0, 0, 0, 0), ("make", 1, 0, 0, 0), ("make", 1, 0, 0, 0)])
                twin = copy.deepcopy(world)
                self.tells(world, ("sweep", many), steps(twin, many))
                self.assertEqual(plain(world), plain(twin))

    def test_the_events_of_two_rounds(self):
        world = new_world("first old")
        do_all(world, [("make", 0, 0, 0, 0), ("make", 0, 0, 0, 0)])
        self.tells(world, ("sweep", 8), [("begin", 1, [2]), ("walk", 2, []), ("cut", 1, [1]), ("back", 1, [0]),
                                         ("pass", 1, []), ("end", 1, [1, 0, 2]), ("begin", 2, [2]), ("walk", 2, [])])
        self.tells(world, ("sweep", 2), [("cut", 0, []), ("pass", 0, [])])

    def test_the_greatest_number_of_steps(self):
        world = new_world("last", hands=[("ann", 3)])
        answer = tried(world, ("sweep", 9999))
        self.assertEqual(len(answer), 9999)
        self.assertEqual(answer[-3:], [("begin", 3333, []), ("cut", 0, []), ("end", 3333, [0, 0, 0])])

    def test_none_behind_a_step_that_told_a_loss(self):
        for many in (2, 3, 9999):
            world = new_world("first")
            for row in LOSING:
                tried(world, row)
            self.tells(world, ("sweep", many), [("walk", 1, []), LOST])
            self.assertEqual((world.sweeper.phase, world.sweeper.loss), ("lost", LOST))

    def test_just_up_to_the_loss(self):
        world = new_world("first")
        for row in LOSING:
            tried(world, row)
        self.tells(world, ("sweep", 1), [("walk", 1, [])])
        self.tells(world, ("sweep", 1), [LOST])

    def test_a_world_that_is_lost_already(self):
        for many in (1, 2, 3, 9999):
            world = lost_world()
            before = plain(world)
            for again in range(2):
                self.tells(world, ("sweep", many), [LOST])
                self.assertEqual(plain(world), before)

    def test_the_loss_is_told_again_as_it_was(self):
        world = lost_world()
        answer = tried(world, ("sweep", 5))
        answer[0][2].append(9)
        answer.append("more")
        self.tells(world, ("sweep", 5), [LOST])
        self.assertEqual(world.sweeper.loss, LOST)


class Runs(unittest.TestCase):
    def is_run(self, scene, log, *most):
        """A scene's run answers a log of its own, and the scene stays as it was."""
        before = all_of(scene)
        answer = run(scene, *most)
        self.assertEqual(answer, log)
        self.assertEqual({type(part) for part in [answer] + answer}, {list})
        self.assertEqual(all_of(scene), before)
        lists = [id(part) for part in [answer] + answer] + [id(event[2]) for events in answer for event in events]
        self.assertEqual(len(set(lists)), len(lists))
        self.assertEqual(heard(report(answer)), log)
        return answer

    def test_no_rows(self):
        self.is_run(new_scene([]), [])
        self.is_run(new_scene([]), [], None)
        self.is_run(new_scene([]), [], 0)
        self.is_run(new_scene([]), [], 5)

    def test_a_list_for_each_row(self):
        self.is_run(new_scene(MAKES + [("read", 1, 0), ("sweep", 3), ("get", 0, 1, 0, 0), ("sweep", 1)]), [
            [("made", 1, [])], [("made", 2, [])], [("put", None, [])], [("dropped", 2, [])],
            [("refused", "empty", [])], [("begin", 1, [1]), ("walk", 1, [2]), ("walk", 2, [])], [("got", 2, [])],
            [("cut", 0, [])]])

    def test_each_refusal(self):
        rows = [("read", 0, 0), ("make", 0, 0, 0, 0), ("get", 0, 0, 0, 0), ("make", 0, 0, 8, 0), ("seek", 0, 0, "far"),
                ("read", 0, 0)]
        self.is_run(new_scene(rows, room=4), [
            [("refused", "empty", [])], [("made", 1, [])], [("refused", "field", [])], [("refused", "full", [])],
            [("refused", "name", [])], [("read", 0, [])]])

    def test_most(self):
        rows = LOSING[:5] + [("read", 1, 2), ("sweep", 1)]
        whole = run(new_scene(rows))
        self.assertEqual(len(whole), 7)
        for most in range(7):
            self.is_run(new_scene(rows), whole[:most], most)
        for most in (7, 8, 100, 10 ** 6):
            self.is_run(new_scene(rows), whole, most)
        self.is_run(new_scene(rows), whole, None)
        self.assertEqual(run(new_scene(rows), most=3), whole[:3])
        self.assertEqual(run(scene=new_scene(rows), most=None), whole)

    def test_no_row_behind_a_loss(self):
        scene = new_scene(LOSING + [("sweep", 1), ("sweep", 5)], "first")
        log = self.is_run(scene, run(scene, 8) + [[LOST]])
        self.assertEqual(log[-2:], [[("walk", 1, [])], [LOST]])
        for more in ([("sweep", 1)], [("sweep", 1)] * 5, [("make", 0, 0, 0, 0)], [("read", 1, 1), ("sweep", 9)]):
            longer = with_rows(scene, more)
            self.is_run(longer, log)
            self.is_run(longer, log, None)
            self.is_run(longer, log, 9)
            self.is_run(longer, log, 10)
            self.is_run(longer, log, 100)
            self.is_run(longer, log[:8], 8)

    def test_twice(self):
        for words in EVERY_WORDS:
            scene = new_scene(LOSING + [("name", 0, 1, "dear"), ("sweep", 30), ("seek", 1, 1, "dear")], words)
            first = run(scene)
            told = copy.deepcopy(first)
            second = self.is_run(scene, told)
            second[0].clear()
            second.pop()
            self.assertEqual(first, told)
            self.is_run(scene, told)

    def test_a_scene_that_was_changed(self):
        scene = new_scene([("make", 0, 0, 0, 0)])
        scene.rows.append(("drop", 0, 0))
        scene.hands.append(("cid", 5))
        scene.rows.append(("drop", 2, 4))
        self.is_run(scene, [[("made", 1, [])], [("dropped", 1, [])], [("dropped", None, [])]])

    def test_its_world_is_a_new_one(self):
        scene = new_scene([("make", 0, 0, 0, 0)])
        world = world_of(scene)
        self.is_run(scene, [[("made", 1, [])]])
        self.assertEqual(plain(world), plain(world_of(scene)))

    def test_row_by_row(self):
        for words in EVERY_WORDS:
            behind = [("name", 0, 1, "dear"), ("sweep", 4), ("drop", 0, 1), ("seek", 1, 1, "far")]
            scene = new_scene(LOSING + behind, words)
            world = world_of(scene)
            log = []
            for row in scene.rows:
                if world.sweeper.phase != "lost":
                    log.append(tried(world, row))
            self.is_run(scene, log)

    def test_a_thousand_rows(self):
        rows = [("make", 0, 1, 1, 0), ("put", 0, 1, 0, 0), ("copy", 0, 0, 1), ("sweep", 2)] * 250
        for words in ("first old", "each old new", "last new"):
            scene = Scene(10 ** 6, kind_of(words), list(FIVE_HANDS), rows)
            log = run(scene)
            self.assertEqual(len(log), 1000)
            self.assertEqual([events[0] for events in log[::4]], [("made", birth, []) for birth in range(1, 251)])
            self.assertEqual({len(events) for events in log[3::4]}, {2})

    def test_a_quiet_scene(self):
        scene = new_scene(LOSING + [("sweep", 9)], "first")
        self.is_run(quiet(scene), [[("made", 1, [])], [("made", 2, [])], [("put", None, [])], [("dropped", 2, [])],
                                   [("got", 2, [])], [("put", 2, [])]])


class Lost(unittest.TestCase):
    def test_the_empty_log(self):
        self.assertIs(is_lost([]), False)

    def test_a_log_that_ends_with_a_loss(self):
        for log in ([[LOST]], [[("begin", 1, []), LOST]], [[("made", 1, [])], [LOST]], [[LOST], [LOST]],
                    [[LOST, LOST]], [[("lost", 1, [0, 0])]]):
            before = copy.deepcopy(log)
            self.assertIs(is_lost(log), True)
            self.assertEqual(log, before)

    def test_a_log_that_ends_with_another_event(self):
        for word in ("made got put copied dropped given wrote read named sought begin walk look cut back pass end"
                     ).split():
            self.assertIs(is_lost([[(word, 1, [])]]), False)
            self.assertIs(is_lost([[LOST], [(word, 1, [])]]), False)
            self.assertIs(is_lost([[LOST, (word, 1, [])]]), False)
            self.assertIs(is_lost([[("walk", 1, []), (word, 1, [])]]), False)
        for word in ("empty", "field", "full", "name"):
            self.assertIs(is_lost([[("refused", word, [])]]), False)

    def test_logs_of_runs(self):
        for words in EVERY_WORDS:
            log = run(new_scene(LOSING + [("sweep", 5)], words))
            self.assertIs(is_lost(log), words in ("first", "first new"))
        self.assertIs(is_lost(run(new_scene(LOSING + [("sweep", 1)], "first"))), False)
        self.assertIs(is_lost(run(new_scene(LOSING + [("sweep", 2)], "first"))), True)
        self.assertIs(is_lost(run(new_scene(LOSING + [("sweep", 2)], "first"), 7)), False)


HEAD = "room 1000\nkind first\nhand ann 4\nhand bob 3\nweave"
WEAVE = """ann make 0 1 0
ann make 1 0 0
ann put 0 0 1
ann drop 1
bob read 2
sweep 1
ann get 1 0 0
ann put 0 0 2
ann write 1 -5
sweep 9999
sweep 1"""
TOLD = """1 made 1
2 made 2
3 put -
4 dropped 2
5 refused empty
6 begin 1 1
7 got 2
8 put 2
9 wrote 0
10 walk 1
10 lost 2 0 1"""


class Tell(unittest.TestCase):
    def is_refused(self, text, error, row):
        with self.assertRaises(error) as taken:
            tell(text)
        self.assertIs(type(taken.exception), error)
        self.assertEqual(taken.exception.row, row)

    def test_a_text(self):
        answer = tell(HEAD + "\n" + WEAVE)
        self.assertIs(type(answer), str)
        self.assertEqual(answer, TOLD)

    def test_no_rows(self):
        self.assertEqual(tell(HEAD), "")

    def test_it_is_the_report_of_the_run_of_what_was_read(self):
        for words in EVERY_WORDS:
            text = (HEAD + "\n" + WEAVE).replace("kind first", "kind " + words)
            self.assertEqual(tell(text), report(run(read(text))))
            self.assertEqual(heard(tell(text)), run(read(text)))

    def test_a_whole_round(self):
        text = HEAD.replace("first", "each old new") + "\nann make 0 0 0\nann make 0 1 7\nsweep 9"
        self.assertEqual(tell(text), "\n".join([
            "1 made 1", "2 made 2", "3 begin 1", "3 look 1 2", "3 walk 2", "3 look 2", "3 cut 1 1", "3 back 1 0",
            "3 pass 1", "3 end 1 1 2 2", "3 begin 2"]))

    def test_texts_that_read_refuses(self):
        self.is_refused("", BadRow, 1)
        self.is_refused("room 3\nkind first\nhand ann 3\nweave", BadRow, 1)
        self.is_refused("room 4\nkind old\nhand ann 3\nweave", BadRow, 2)
        self.is_refused("room 4\nkind first\nhand ann 3", BadRow, 4)
        self.is_refused(HEAD + "\n", BadRow, 6)
        self.is_refused(HEAD + "\nann drop 0\nann drop 00", BadRow, 7)
        self.is_refused(HEAD + "\nsweep 1" * 401, BadRow, 406)
        self.is_refused("room 4\nkind first\nhand ann 3\nhand ann 3\nweave", Twice, 4)
        self.is_refused(HEAD + "\ncid drop 0", NoHand, 6)
        self.is_refused(HEAD + "\nann drop 0\nann give 0 cid 0", NoHand, 7)
        self.is_refused(HEAD + "\nbob drop 3", NoSlot, 6)
        self.is_refused(HEAD + "\n" + WEAVE + "\nann give 0 bob 3", NoSlot, 17)

    def test_a_row_behind_the_loss_is_read_all_the_same(self):
        self.assertEqual(tell(HEAD + "\n" + WEAVE + "\nbob drop 2"), TOLD)
        self.is_refused(HEAD + "\n" + WEAVE + "\nbob drop 3", NoSlot, 17)

    def test_deeds_that_are_refused_are_told(self):
        text = "room 4\nkind last new\nhand ann 3\nweave\nann read 0\nann make 0 0 0\nann get 0 0 0\nann make 0 8 0\n"
        self.assertEqual(tell(text + "ann seek 0 far"),
                         "1 refused empty\n2 made 1\n3 refused field\n4 refused full\n5 refused name")


if __name__ == "__main__":
    unittest.main()

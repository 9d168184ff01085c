"""Point 37 with what points 1 and 3 say of it, and the interface's part greywalk/scenes.py."""

import unittest

from greywalk.deeds import do
from greywalk.kinds import Kind, kind_of
from greywalk.scenes import Scene, quiet, with_rows, world_of
from greywalk.sweeper import step
from greywalk.world import World, births_held
from worlds import EVERY_WORDS, FIVE_HANDS, all_of, plain

HANDS = [("ann", 3), ("bob", 9)]
ROWS = [
    ("sweep", 1), ("make", 0, 0, 2, 10), ("get", 0, 1, 0, 1), ("put", 0, 0, 0, 0), ("sweep", 9999), ("copy", 1, 8, 0),
    ("drop", 1, 8), ("give", 0, 0, 1, 8), ("write", 1, 8, -5), ("read", 1, 8), ("name", 1, 8, "sweep"),
    ("seek", 0, 2, "sweep"), ("sweep", 2),
]


def new_scene(rows=ROWS, words="first old"):
    return Scene(100, kind_of(words), list(HANDS), list(rows))


class Scenes(unittest.TestCase):
    def share_nothing(self, *scenes):
        lists = [id(part) for scene in scenes for part in (scene.hands, scene.rows)]
        self.assertEqual(len(set(lists)), len(lists))


class Making(Scenes):
    def test_its_fields(self):
        kind = kind_of("each old new")
        scene = Scene(77, kind, list(HANDS), list(ROWS))
        self.assertEqual((scene.room, scene.hands, scene.rows), (77, HANDS, ROWS))
        self.assertIs(type(scene.kind), Kind)
        self.assertEqual(scene.kind.words(), "each old new")
        self.assertEqual((type(scene.hands), type(scene.rows)), (list, list))
        self.assertEqual({type(part) for part in scene.hands + scene.rows}, {tuple})

    def test_no_rows(self):
        self.assertEqual(Scene(4, kind_of("last"), list(HANDS), []).rows, [])

    def test_the_bounds(self):
        many = [("drop", 0, 0)] * 1000
        scene = Scene(10 ** 15, kind_of("last"), list(FIVE_HANDS), many)
        self.assertEqual((scene.room, scene.hands, scene.rows), (10 ** 15, list(FIVE_HANDS), many))

    def test_the_lists_that_it_was_made_of_are_changed(self):
        hands, rows = list(HANDS), list(ROWS)
        scene = Scene(100, kind_of("first"), hands, rows)
        hands.append(("cid", 3))
        hands[0] = ("dot", 5)
        rows.clear()
        self.assertEqual((scene.hands, scene.rows), (HANDS, ROWS))

    def test_the_lists_that_it_was_made_of_stay(self):
        hands, rows = list(HANDS), list(ROWS)
        scene = Scene(100, kind_of("first"), hands, rows)
        scene.hands.pop()
        scene.rows.append(("sweep", 1))
        self.assertEqual((hands, rows), (HANDS, ROWS))

    def test_two_scenes_of_the_same_lists(self):
        hands, rows = list(HANDS), list(ROWS)
        first = Scene(100, kind_of("first"), hands, rows)
        second = Scene(100, kind_of("first"), first.hands, first.rows)
        self.share_nothing(first, second)
        self.assertNotIn(id(hands), (id(first.hands), id(second.hands)))
        self.assertNotIn(id(rows), (id(first.rows), id(second.rows)))
        first.rows.clear()
        first.hands.clear()
        self.assertEqual((second.hands, second.rows), (HANDS, ROWS))


class WorldOf(Scenes):
    def test_a_world_in_which_nothing_is_done(self):
        for words in EVERY_WORDS:
            for many in range(1, 6):
                scene = Scene(50 + many, kind_of(words), list(FIVE_HANDS[:many]), list(ROWS))
                world = world_of(scene)
                self.assertIs(type(world), World)
                self.assertEqual(plain(world), plain(World(50 + many, kind_of(words), list(FIVE_HANDS[:many]))))
                self.assertEqual(births_held(world), [[None] * slots for name, slots in FIVE_HANDS[:many]])
                self.assertEqual((world.heap.cells, world.heap.born, world.sweeper.turn), ([], 0, 0))

    def test_twice(self):
        scene = new_scene()
        before = all_of(scene)
        first, second = world_of(scene), world_of(scene)
        do(first, ("make", 0, 0, 2, 0))
        do(first, ("name", 0, 0, "dear"))
        step(first)
        self.assertEqual(plain(second), plain(world_of(new_scene())))
        for one, other in ((first.heap, second.heap), (first.sweeper, second.sweeper), (first.names, second.names),
                           (first.hands, second.hands), (first.hands[0].slots, second.hands[0].slots)):
            self.assertIsNot(one, other)
        self.assertEqual(all_of(scene), before)

    def test_the_scene_is_changed_behind_it(self):
        scene = new_scene()
        world = world_of(scene)
        scene.hands.append(("cid", 4))
        scene.rows.clear()
        self.assertEqual([hand.name for hand in world.hands], ["ann", "bob"])

    def test_the_scene_is_changed_ahead_of_it(self):
        scene = new_scene()
        scene.hands.append(("cid", 4))
        self.assertEqual([(hand.name, len(hand.slots)) for hand in world_of(scene).hands], HANDS + [("cid", 4)])

    def test_the_world_is_changed(self):
        scene = new_scene()
        world = world_of(scene)
        world.hands.pop()
        world.hands[0].slots.append(None)
        self.assertEqual(scene.hands, HANDS)


class WithRows(Scenes):
    def test_more_rows_behind_its_own(self):
        scene = new_scene()
        more = [("drop", 1, 0), ("sweep", 7), ("drop", 1, 0)]
        longer = with_rows(scene, more)
        self.assertIs(type(longer), Scene)
        self.assertEqual(all_of(longer), (100, "first old", HANDS, ROWS + more))
        self.assertEqual(all_of(scene), (100, "first old", HANDS, ROWS))
        self.assertEqual(more, [("drop", 1, 0), ("sweep", 7), ("drop", 1, 0)])

    def test_no_rows(self):
        scene = new_scene()
        same = with_rows(scene, [])
        self.assertIsNot(same, scene)
        self.assertEqual(all_of(same), all_of(scene))
        self.share_nothing(scene, same)
        self.assertEqual(with_rows(new_scene([]), []).rows, [])
        self.assertEqual(with_rows(new_scene([]), ROWS).rows, ROWS)

    def test_its_own_rows_again(self):
        scene = new_scene()
        self.assertEqual(with_rows(scene, scene.rows).rows, ROWS + ROWS)
        self.assertEqual(scene.rows, ROWS)

    def test_nothing_is_shared(self):
        scene = new_scene([])
        more = list(ROWS)
        longer = with_rows(scene, more)
        self.share_nothing(scene, longer)
        self.assertIsNot(longer.rows, more)
        more.clear()
        scene.hands.clear()
        scene.rows.append(("sweep", 5))
        self.assertEqual((longer.hands, longer.rows), (HANDS, ROWS))
        longer.rows.clear()
        longer.hands.append(("cid", 3))
        self.assertEqual((scene.hands, scene.rows), ([], [("sweep", 5)]))

    def test_a_scene_that_was_changed(self):
        scene = new_scene()
        scene.rows[:] = [("drop", 0, 1)]
        scene.hands.append(("cid", 3))
        longer = with_rows(scene, [("sweep", 3)])
        self.assertEqual((longer.hands, longer.rows), (HANDS + [("cid", 3)], [("drop", 0, 1), ("sweep", 3)]))


class Quiet(Scenes):
    def test_the_rows_of_the_sweeper_are_left_out(self):
        scene = new_scene()
        still = quiet(scene)
        self.assertIs(type(still), Scene)
        self.assertEqual(all_of(still), (100, "first old", HANDS, [row for row in ROWS if len(row) > 2]))
        self.assertEqual(all_of(scene), (100, "first old", HANDS, ROWS))

    def test_the_sweeper_s_rows_alone(self):
        self.assertEqual(quiet(new_scene([("sweep", 1)])).rows, [])
        self.assertEqual(quiet(new_scene([("sweep", number) for number in (1, 9999, 3, 3)])).rows, [])

    def test_none_of_the_sweeper_s_rows(self):
        rows = [("drop", 0, 0), ("drop", 0, 0), ("name", 0, 0, "sweep")]
        for own in (rows, []):
            scene = new_scene(own)
            still = quiet(scene)
            self.assertIsNot(still, scene)
            self.assertEqual(all_of(still), all_of(scene))
            self.share_nothing(scene, still)

    def test_nothing_is_shared(self):
        scene = new_scene()
        still = quiet(scene)
        self.share_nothing(scene, still)
        kept = list(still.rows)
        scene.rows.clear()
        scene.hands.clear()
        self.assertEqual((still.hands, still.rows), (HANDS, kept))
        still.hands.clear()
        still.rows.clear()
        self.assertEqual(quiet(new_scene()).rows, kept)

    def test_a_scene_that_was_changed(self):
        scene = new_scene()
        scene.rows[:] = [("drop", 0, 1), ("sweep", 3), ("drop", 1, 1)]
        self.assertEqual(quiet(scene).rows, [("drop", 0, 1), ("drop", 1, 1)])


if __name__ == "__main__":
    unittest.main()

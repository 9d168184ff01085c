"""The whole interface: its names, arguments and kinds; and points 1, 3 and 4 as far as they speak of every function."""

import copy
import importlib
import inspect
import unittest

from greywalk.cells import birth_at
from greywalk.deeds import do
from greywalk.errors import EmptySlot, Full, GreyError, NoField, NoName, Sound, TextError
from greywalk.kinds import kind_of
from greywalk.reading import read
from greywalk.report import event_of, event_row, heard, report
from greywalk.runs import is_lost, run, tell, tried
from greywalk.scenes import Scene, quiet, with_rows, world_of
from greywalk.sweeper import step, to_rest
from greywalk.undoing import undoing
from greywalk.ways import follow, outside, reached
from greywalk.world import births_held, gone, held, looked_at, mark_of, roots, told_cells
from greywalk.writing import written
from worlds import EVERY_WORDS, SOUND_WORDS, all_of, plain

FUNCTIONS = {
    "figures": ["number_of(text, most=None)", "load_of(text)", "is_word(text)"],
    "cells": ["birth_at(heap, place)"],
    "ways": ["follow(heap, rows, way)", "reached(heap, rows)", "outside(heap, rows)"],
    "kinds": ["kind_of(text)"],
    "world": ["held(world)", "births_held(world)", "roots(world)", "looked_at(world, hand)", "mark_of(world, place)",
              "begin(world)", "note(world, place)", "gone(world, place, birth)", "told_cells(world)"],
    "deeds": ["do(world, deed)"],
    "sweeper": ["step(world)", "to_rest(world)"],
    "scenes": ["world_of(scene)", "with_rows(scene, more)", "quiet(scene)"],
    "reading": ["read(text)"],
    "writing": ["written(scene)"],
    "report": ["event_row(event)", "event_of(text)", "report(log)", "heard(text)"],
    "runs": ["tried(world, row)", "run(scene, most=None)", "is_lost(log)", "tell(text)"],
    "undoing": ["undoing(scene)"],
}
CLASSES = {
    "errors": ["GreyError", "EmptySlot", "NoField", "Full", "NoName", "Sound", "TextError(row)", "BadRow(row)",
               "Twice(row)", "NoHand(row)", "NoSlot(row)"],
    "cells": ["Cell(birth, many, bulk, tone)", "Heap(room)"],
    "kinds": ["Looking()", "First()", "Each()", "Last()", "Kind(looking, tells)"],
    "world": ["Hand(name, many)", "Sweeper()", "World(room, kind, hands)"],
    "scenes": ["Scene(room, kind, hands, rows)"],
}
METHODS = {
    "cells.Cell": ["units()"],
    "cells.Heap": ["make(many, bulk=0, tone=0)", "back(place)", "free()", "there()"],
    "kinds.Looking": ["word()", "needs()", "at_begin(hands)", "next_look(looked, hands)", "stays()"],
    "kinds.Kind": ["sound()", "words()"],
}
HANDS = [("ann", 3), ("bob", 4)]
# Rows after which cells hold one another, a weak name stands for a cell, and a cell is let go.
CELLS = [
    ("make", 0, 0, 2, 0), ("make", 0, 1, 1, 3), ("put", 0, 0, 1, 1), ("name", 0, 1, "dear"), ("give", 0, 1, 1, 3),
    ("write", 0, 0, -5), ("make", 0, 1, 0, 0), ("name", 0, 1, "far"), ("drop", 0, 1), ("make", 1, 0, 1, 0),
]


def named(module, name):
    return getattr(importlib.import_module("greywalk." + module), name)


def called(name, thing, own=0):
    """How a thing is called, its own first arguments left out."""
    parts = list(inspect.signature(thing).parameters.values())[own:]
    return name + "(" + ", ".join([str(part) for part in parts]) + ")"


def new_scene(words="first old", rows=()):
    return Scene(40, kind_of(words), list(HANDS), CELLS + list(rows))


def every_world():
    """Worlds of every kind behind each step of a round."""
    for words in EVERY_WORDS:
        for many in range(1, 16):
            yield world_behind(new_scene(words, [("sweep", many)]))
        yield world_behind(new_scene(words, undoing(new_scene(words)) if words not in SOUND_WORDS else []))


def world_behind(scene):
    world = world_of(scene)
    for row in scene.rows:
        tried(world, row)
    return world


def spoil(thing):
    """Changes every list in a thing."""
    if isinstance(thing, (list, tuple)):
        for part in thing:
            spoil(part)
    if isinstance(thing, list):
        thing.append("spoiled")
        thing[:1] = []


def kinds_in(thing):
    """The kinds of the plain values of which a thing is made."""
    if isinstance(thing, (list, tuple)):
        found = {type(thing)}
        for part in thing:
            found |= kinds_in(part)
        return found
    return {type(thing)}


class Names(unittest.TestCase):
    def test_functions(self):
        for module, texts in FUNCTIONS.items():
            for text in texts:
                name = text.split("(")[0]
                function = named(module, name)
                self.assertTrue(inspect.isfunction(function))
                self.assertEqual(called(name, function), text)

    def test_classes(self):
        for module, texts in CLASSES.items():
            for text in texts:
                name = text.split("(")[0]
                own = named(module, name)
                self.assertTrue(inspect.isclass(own))
                if "(" in text and text != name + "()":
                    self.assertEqual(called(name, own.__init__, 1), text)

    def test_methods(self):
        for path, texts in METHODS.items():
            module, name = path.split(".")
            for text in texts:
                method = text.split("(")[0]
                self.assertEqual(called(method, getattr(named(module, name), method), 1), text)

    def test_lookings(self):
        for name in ("First", "Each", "Last"):
            self.assertIsInstance(named("kinds", name)(), named("kinds", "Looking"))

    def test_the_values_of_each_object(self):
        world = world_behind(new_scene())
        for thing, names in (
            (world, "heap kind hands names sweeper"),
            (world.heap, "room cells used born"),
            (world.heap.cells[0], "birth bulk tone load fields"),
            (world.hands[0], "name slots"),
            (world.sweeper, "sense phase grey looked turn at stop walks looks passes loss"),
            (world.kind, "looking tells"),
            (new_scene(), "room kind hands rows"),
        ):
            for name in names.split(" "):
                self.assertIn(name, vars(thing))

    def test_each_refusal_is_a_class_of_its_own(self):
        bases = {"GreyError": ValueError, "TextError": GreyError}
        for text in CLASSES["errors"]:
            name = text.split("(")[0]
            of_text = name in ("BadRow", "Twice", "NoHand", "NoSlot")
            self.assertEqual(named("errors", name).__bases__, (bases.get(name, TextError if of_text else GreyError),))


class Asking(unittest.TestCase):
    def asked(self, world):
        """All that can be asked of a world without changing it."""
        rows = held(world)
        return [
            rows, births_held(world), roots(world), told_cells(world), [looked_at(world, hand) for hand in (0, 1)],
            [mark_of(world, place) for place in world.heap.there()], reached(world.heap, rows),
            [follow(world.heap, rows, way) for place, way in reached(world.heap, rows)], outside(world.heap, rows),
            [gone(world, place, birth_at(world.heap, place)) for place in (None, 0, 1, 2, 3, 9)], world.heap.there(),
            world.heap.free(), world.kind.words(), world.kind.sound(),
            [world.heap.cells[place].units() for place in world.heap.there()],
        ]

    def test_nothing_that_is_asked_changes_a_world(self):
        for world in every_world():
            before = plain(world)
            first = self.asked(world)
            self.assertEqual(plain(world), before)
            self.assertEqual(self.asked(world), first)

    def test_the_lists_that_are_answered_are_the_asker_s_own(self):
        for world in every_world():
            before = plain(world)
            answer = self.asked(world)
            kept = copy.deepcopy(answer)
            spoil(answer)
            self.assertEqual(plain(world), before)
            self.assertEqual(self.asked(world), kept)

    def test_nothing_done_later_changes_what_was_answered(self):
        for world in every_world():
            answer = self.asked(world)
            kept = copy.deepcopy(answer)
            if world.sweeper.phase != "lost":
                for row in CELLS + [("sweep", 30), ("drop", 0, 0), ("sweep", 30)]:
                    tried(world, row)
            self.assertEqual(answer, kept)

    def test_rows_that_are_handed_in_stay(self):
        for world in every_world():
            rows = held(world) + [[0, None, 99]]
            before = copy.deepcopy(rows)
            for place, way in reached(world.heap, rows):
                self.assertEqual(follow(world.heap, rows, way), place)
            outside(world.heap, rows)
            self.assertEqual(rows, before)


class Scenes(unittest.TestCase):
    def scenes(self):
        for words in EVERY_WORDS:
            for many in (1, 4, 9, 30):
                yield new_scene(words, [("read", 1, 1), ("sweep", many), ("seek", 1, 2, "dear"), ("sweep", many)])

    def test_a_scene_that_is_handed_in_stays(self):
        for scene in self.scenes():
            before = all_of(scene)
            more = [("drop", 0, 0)]
            log = run(scene)
            run(scene, 3)
            written(scene)
            world_of(scene)
            spoil([quiet(scene).rows, quiet(scene).hands, with_rows(scene, more).rows])
            if not scene.kind.sound():
                spoil(undoing(scene))
            spoil(log)
            self.assertEqual(all_of(scene), before)
            self.assertEqual(more, [("drop", 0, 0)])

    def test_a_log_that_is_handed_in_stays(self):
        for scene in self.scenes():
            log = run(scene)
            before = copy.deepcopy(log)
            spoil(heard(report(log)))
            is_lost(log)
            for events in log:
                for event in events:
                    spoil(event_of(event_row(event)))
            self.assertEqual(log, before)

    def test_events_are_not_changed_by_later_rows(self):
        for scene in self.scenes():
            world = world_of(scene)
            told = []
            kept = []
            for row in scene.rows:
                told.append(tried(world, row))
                kept.append(copy.deepcopy(told[-1]))
            self.assertEqual(told, kept)

    def test_events_that_are_changed_do_not_change_the_world(self):
        for scene in self.scenes():
            world = world_of(scene)
            for row in scene.rows:
                spoil(tried(world, row))
            self.assertEqual(plain(world), plain(world_behind(scene)))

    def test_kinds_of_values(self):
        for scene in self.scenes():
            log = run(scene)
            self.assertLessEqual(kinds_in(log), {list, tuple, int, str, type(None)})
            self.assertEqual({type(part) for events in log for part in events}, {tuple})
            if not scene.kind.sound():
                self.assertLessEqual(kinds_in(undoing(scene)), {list, tuple, int, str})
        for world in every_world():
            self.assertLessEqual(kinds_in(told_cells(world)), {list, tuple, int, str, type(None)})
            self.assertLessEqual(kinds_in(reached(world.heap, held(world))), {list, tuple, int})
            self.assertIs(type(to_rest(world)), int)
            self.assertLessEqual(kinds_in(step(world)), {list, tuple, int, str})


class Refusals(unittest.TestCase):
    def test_where_a_deed_is_refused_everything_stays(self):
        for world in every_world():
            if world.sweeper.phase == "lost":
                continue
            do(world, ("make", 0, 0, 1, 0))
            for deed, error in (
                (("read", 0, 2), EmptySlot), (("write", 0, 2, 1), EmptySlot), (("name", 0, 2, "dear"), EmptySlot),
                (("get", 0, 1, 2, 0), EmptySlot), (("put", 0, 2, 0, 0), EmptySlot), (("get", 0, 1, 0, 1), NoField),
                (("put", 0, 0, 1, 0), NoField), (("make", 0, 0, 8, 40), Full), (("seek", 0, 0, "never"), NoName),
            ):
                before = plain(world)
                with self.assertRaises(GreyError) as taken:
                    do(world, deed)
                self.assertIs(type(taken.exception), error)
                self.assertEqual(plain(world), before)
                self.assertEqual(tried(world, deed)[0][0], "refused")
                self.assertEqual(plain(world), before)

    def test_where_a_call_is_refused_nothing_is_kept_of_it(self):
        text = written(new_scene())
        told = tell(text)
        for bad in ("", text + "\n", text + "\ncid drop 0", text + "\nann drop 3", text.replace("bob 4", "ann 4")):
            for call in (read, tell):
                with self.assertRaises(TextError):
                    call(bad)
            self.assertEqual(tell(text), told)
        for bad in ("1", told + "\n", "0" + told, told + "\n1 made 1"):
            with self.assertRaises(TextError):
                heard(bad)
            self.assertEqual(report(heard(told)), told)
        for words in SOUND_WORDS:
            scene = new_scene(words)
            with self.assertRaises(Sound):
                undoing(scene)
            self.assertEqual(all_of(scene), all_of(new_scene(words)))


if __name__ == "__main__":
    unittest.main()

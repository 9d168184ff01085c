"""Points 24, 25 and 26 with what points 1, 3 and 4 say of them, and the interface's part greywalk/deeds.py."""

import copy
import unittest

from greywalk.cells import Cell
from greywalk.deeds import do
from greywalk.errors import EmptySlot, Full, GreyError, NoField, NoName
from greywalk.world import begin, roots
from worlds import EVERY_WORDS, new_world, plain, toned, whole, world_in

PHASES = ("rest", "walk", "give")
REFUSALS = (EmptySlot, NoField, Full, NoName)


def stocked(phase, words="last"):
    """A world with three cells, at places 0, 1 and 2 with the births 1, 2 and 3; in a walk they are pale."""
    world = world_in(phase, words)
    for many, bulk in ((2, 0), (0, 3), (8, 1)):
        toned(world, "pale" if phase == "walk" else "dark", many, bulk)
    cells = world.heap.cells
    cells[0].fields[0] = 1
    cells[2].fields[7] = 0
    cells[0].load = 11
    cells[1].load = -5
    world.hands[0].slots[:] = [0, 1, None, 2]
    world.hands[1].slots[:] = [None, 1, 2]
    world.names["dear"] = (1, 2)
    return world


def noting(words, hand_looked_at):
    """A world in a walk, with two pale cells at 0 and 1, two dark ones at 2 and 3, and hand 0 looked at or not.

    Slots of hand 0: place 2, a pale cell, a dark cell, None. Hand 1 is looked at just where hand 0 is not.
    """
    world = world_in("walk", words)
    for tone in ("pale", "pale", "dark", "dark"):
        toned(world, tone)
    world.hands[0].slots[:] = [2, 0, 3, None]
    world.sweeper.looked = 1 if hand_looked_at else 2
    return world


class Deeds(unittest.TestCase):
    def is_event(self, answer, event):
        self.assertEqual(answer, event)
        self.assertIs(type(answer), tuple)
        self.assertEqual([type(part) for part in answer], [str, type(event[1]), list])
        self.assertEqual({type(number) for number in answer[2]} - {int}, set())

    def does(self, world, deed, event, slots=(), fields=(), noted=(), load=None, names=(), made=None):
        """A deed answers an event and changes what is told, as pairs of where and what, and nothing else."""
        twin = copy.deepcopy(world)
        if made is not None:
            twin.heap.make(made[0], made[1], twin.sweeper.sense)
        for (hand, slot), place in slots:
            twin.hands[hand].slots[slot] = place
        for (place, field), value in fields:
            twin.heap.cells[place].fields[field] = value
        for place in noted:
            twin.heap.cells[place].tone = twin.sweeper.sense
            twin.sweeper.grey.append(place)
        if load is not None:
            twin.heap.cells[load[0]].load = load[1]
        for word, pair in names:
            twin.names[word] = pair
        self.is_event(do(world, deed), event)
        self.assertEqual(plain(world), plain(twin))

    def refuses(self, world, deed, error):
        before = whole(world)
        with self.assertRaises(GreyError) as taken:
            do(world, deed)
        self.assertIs(type(taken.exception), error, deed)
        self.assertEqual(whole(world), before)


class Make(Deeds):
    def test_into_an_empty_slot_and_over_another_cell(self):
        for phase in PHASES:
            world = stocked(phase)
            self.does(world, ("make", 0, 2, 3, 20), ("made", 4, []), slots=[((0, 2), 3)], made=(3, 20))
            self.does(world, ("make", 1, 1, 0, 0), ("made", 5, []), slots=[((1, 1), 4)], made=(0, 0))
            self.assertEqual(world.heap.cells[3].fields, [None, None, None])
            self.assertEqual((world.heap.cells[3].bulk, world.heap.cells[3].load), (20, 0))

    def test_the_tone_is_the_sense(self):
        for phase in PHASES:
            for sense in (0, 1):
                world = new_world()
                world.sweeper.phase = phase
                world.sweeper.sense = sense
                do(world, ("make", 0, 0, 1, 0))
                self.assertEqual(world.heap.cells[0].tone, sense)
                self.assertEqual(world.sweeper.grey, [])

    def test_the_least_free_place(self):
        world = stocked("give")
        world.hands[0].slots[0] = None
        world.heap.back(0)
        self.does(world, ("make", 1, 0, 8, 1), ("made", 4, []), slots=[((1, 0), 0)], made=(8, 1))

    def test_every_number_of_fields_and_the_greatest_bulk(self):
        world = new_world(room=10 ** 15)
        for many in range(9):
            self.does(world, ("make", 1, 2, many, 10 ** 12), ("made", many + 1, []),
                      slots=[((1, 2), many)], made=(many, 10 ** 12))

    def test_the_room_just_suffices_and_does_not(self):
        for phase in PHASES:
            for many, bulk in ((0, 0), (8, 0), (0, 9), (3, 4)):
                units = 1 + many + bulk
                world = world_in(phase, "first old", 4 + units)
                do(world, ("make", 0, 0, 2, 1))
                self.refuses(world, ("make", 0, 0, many + 1, bulk), Full)
                self.refuses(world, ("make", 0, 1, many, bulk + 1), Full)
                self.does(world, ("make", 0, 1, many, bulk), ("made", 2, []), slots=[((0, 1), 1)], made=(many, bulk))
                self.refuses(world, ("make", 1, 0, 0, 0), Full)

    def test_a_refused_make_has_no_birth(self):
        world = new_world(room=4)
        self.refuses(world, ("make", 0, 0, 4, 0), Full)
        self.assertEqual(do(world, ("make", 0, 0, 3, 0)), ("made", 1, []))

    def test_cells_that_nobody_holds_use_their_room_until_they_are_given_back(self):
        world = new_world(room=4)
        do(world, ("make", 0, 0, 3, 0))
        do(world, ("drop", 0, 0))
        self.refuses(world, ("make", 0, 0, 0, 0), Full)
        world.heap.back(0)
        self.assertEqual(do(world, ("make", 0, 0, 0, 0)), ("made", 2, []))


class Get(Deeds):
    def test_a_cell_and_none(self):
        for phase in PHASES:
            world = stocked(phase)
            self.does(world, ("get", 0, 2, 0, 0), ("got", 2, []), slots=[((0, 2), 1)])
            self.does(world, ("get", 0, 2, 0, 1), ("got", None, []), slots=[((0, 2), None)])
            self.does(world, ("get", 1, 1, 2, 7), ("got", 1, []), slots=[((1, 1), 0)])

    def test_over_the_slot_of_the_cell_itself(self):
        world = stocked("walk")
        self.does(world, ("get", 0, 3, 3, 7), ("got", 1, []), slots=[((0, 3), 0)])
        self.does(world, ("get", 0, 3, 3, 1), ("got", None, []), slots=[((0, 3), None)])

    def test_refused(self):
        for phase in PHASES:
            world = stocked(phase)
            self.refuses(world, ("get", 0, 1, 2, 0), EmptySlot)
            self.refuses(world, ("get", 0, 1, 0, 2), NoField)
            self.refuses(world, ("get", 0, 2, 1, 0), NoField)
            self.refuses(world, ("get", 1, 0, 2, 8), NoField)
            self.refuses(world, ("get", 0, 1, 0, 999), NoField)
            self.refuses(world, ("get", 0, 1, 0, -1), NoField)

    def test_the_empty_slot_is_told_ahead_of_the_field(self):
        self.refuses(stocked("rest"), ("get", 0, 1, 2, 999), EmptySlot)


class Put(Deeds):
    def test_over_none_and_over_a_cell(self):
        for phase in PHASES:
            world = stocked(phase)
            self.does(world, ("put", 0, 0, 1, 3), ("put", None, []), fields=[((0, 1), 2)])
            self.does(world, ("put", 0, 0, 0, 3), ("put", 2, []), fields=[((0, 0), 2)])
            self.does(world, ("put", 1, 2, 7, 1), ("put", 1, []), fields=[((2, 7), 1)])

    def test_none_is_put_in(self):
        for phase in PHASES:
            world = stocked(phase)
            self.does(world, ("put", 0, 0, 0, 2), ("put", 2, []), fields=[((0, 0), None)])
            self.does(world, ("put", 0, 0, 0, 2), ("put", None, []))

    def test_over_itself(self):
        for phase in PHASES:
            self.does(stocked(phase), ("put", 0, 0, 0, 1), ("put", 2, []))

    def test_a_cell_into_its_own_field(self):
        for phase in PHASES:
            world = stocked(phase)
            self.does(world, ("put", 0, 0, 1, 0), ("put", None, []), fields=[((0, 1), 0)])
            self.does(world, ("put", 0, 0, 1, 0), ("put", 1, []))

    def test_refused(self):
        for phase in PHASES:
            for words in EVERY_WORDS:
                world = stocked(phase, words)
                self.refuses(world, ("put", 0, 2, 0, 1), EmptySlot)
                self.refuses(world, ("put", 0, 0, 2, 1), NoField)
                self.refuses(world, ("put", 0, 1, 0, 0), NoField)
                self.refuses(world, ("put", 0, 3, 8, 2), NoField)
                self.refuses(world, ("put", 0, 0, 999, 1), NoField)
                self.refuses(world, ("put", 0, 0, -1, 1), NoField)

    def test_the_empty_slot_is_told_ahead_of_the_field(self):
        self.refuses(stocked("walk"), ("put", 1, 0, 999, 0), EmptySlot)


class CopyAndDrop(Deeds):
    def test_copy(self):
        for phase in PHASES:
            for words in EVERY_WORDS:
                world = stocked(phase, words)
                self.does(world, ("copy", 0, 2, 0), ("copied", 1, []), slots=[((0, 2), 0)])
                self.does(world, ("copy", 0, 1, 3), ("copied", 3, []), slots=[((0, 1), 2)])
                self.does(world, ("copy", 1, 2, 0), ("copied", None, []), slots=[((1, 2), None)])

    def test_copy_over_itself(self):
        world = stocked("walk")
        self.does(world, ("copy", 0, 1, 1), ("copied", 2, []))
        self.does(world, ("copy", 0, 2, 2), ("copied", None, []))

    def test_drop(self):
        for phase in PHASES:
            for words in EVERY_WORDS:
                world = stocked(phase, words)
                self.does(world, ("drop", 0, 3), ("dropped", 3, []), slots=[((0, 3), None)])
                self.does(world, ("drop", 0, 3), ("dropped", None, []))
                self.does(world, ("drop", 1, 1), ("dropped", 2, []), slots=[((1, 1), None)])


class Give(Deeds):
    def test_to_another_hand(self):
        for phase in PHASES:
            world = stocked(phase)
            self.does(world, ("give", 0, 0, 1, 2), ("given", 1, []), slots=[((1, 2), 0)])
            self.does(world, ("give", 1, 1, 0, 3), ("given", 2, []), slots=[((0, 3), 1)])
            self.does(world, ("give", 0, 2, 1, 1), ("given", None, []), slots=[((1, 1), None)])

    def test_to_the_same_hand(self):
        for phase in PHASES:
            world = stocked(phase)
            self.does(world, ("give", 0, 0, 0, 2), ("given", 1, []), slots=[((0, 2), 0)])
            self.does(world, ("give", 0, 1, 0, 1), ("given", 2, []))
            self.does(world, ("give", 1, 0, 1, 2), ("given", None, []), slots=[((1, 2), None)])


class WriteAndRead(Deeds):
    def test_write(self):
        for phase in PHASES:
            world = stocked(phase)
            self.does(world, ("write", 0, 0, 12), ("wrote", 11, []), load=(0, 12))
            self.does(world, ("write", 0, 0, 12), ("wrote", 12, []))
            self.does(world, ("write", 1, 1, 0), ("wrote", -5, []), load=(1, 0))
            self.does(world, ("write", 0, 3, -(10 ** 60) + 1), ("wrote", 0, []), load=(2, -(10 ** 60) + 1))
            self.does(world, ("write", 1, 2, 10 ** 60 - 1), ("wrote", -(10 ** 60) + 1, []), load=(2, 10 ** 60 - 1))

    def test_read(self):
        for phase in PHASES:
            world = stocked(phase)
            self.does(world, ("read", 0, 0), ("read", 11, []))
            self.does(world, ("read", 1, 1), ("read", -5, []))
            self.does(world, ("read", 1, 2), ("read", 0, []))

    def test_refused(self):
        for phase in PHASES:
            world = stocked(phase)
            self.refuses(world, ("write", 0, 2, 7), EmptySlot)
            self.refuses(world, ("read", 1, 0), EmptySlot)


class Name(Deeds):
    def test_new_and_anew(self):
        for phase in PHASES:
            world = stocked(phase)
            self.does(world, ("name", 0, 0, "near"), ("named", 1, []), names=[("near", (0, 1))])
            self.does(world, ("name", 1, 2, "dear"), ("named", 3, []), names=[("dear", (2, 3))])
            self.does(world, ("name", 0, 3, "dear"), ("named", 3, []))
            self.assertEqual([type(pair) for pair in world.names.values()], [tuple, tuple])

    def test_a_name_given_anew_keeps_its_place_in_the_order(self):
        world = stocked("rest")
        for slot, word in ((0, "zed"), (1, "abe"), (3, "dear"), (3, "zed"), (0, "mim"), (0, "abe")):
            do(world, ("name", 0, slot, word))
        self.assertEqual(list(world.names.items()), [
            ("dear", (2, 3)), ("zed", (2, 3)), ("abe", (0, 1)), ("mim", (0, 1)),
        ])
        self.assertEqual(roots(world)[-1], [2, 2, 0, 0])

    def test_also_where_the_cell_that_it_stood_for_is_gone(self):
        world = stocked("rest")
        world.hands[0].slots[1] = None
        world.hands[1].slots[1] = None
        world.heap.cells[0].fields[0] = None
        world.heap.back(1)
        do(world, ("make", 0, 1, 0, 0))
        self.does(world, ("name", 0, 1, "dear"), ("named", 4, []), names=[("dear", (1, 4))])

    def test_refused(self):
        for phase in PHASES:
            world = stocked(phase)
            self.refuses(world, ("name", 0, 2, "near"), EmptySlot)
            self.refuses(world, ("name", 1, 0, "dear"), EmptySlot)


class Seek(Deeds):
    def test_it_finds_a_cell(self):
        for words in EVERY_WORDS:
            for phase in ("rest", "give"):
                world = stocked(phase, words)
                self.does(world, ("seek", 0, 2, "dear"), ("sought", 2, []), slots=[((0, 2), 1)])
                self.does(world, ("seek", 1, 2, "dear"), ("sought", 2, []), slots=[((1, 2), 1)])

    def test_in_a_walk_what_is_found_is_noted_in_every_kind(self):
        for words in EVERY_WORDS:
            for looked in range(4):
                world = stocked("walk", words)
                world.sweeper.looked = looked
                self.does(world, ("seek", 1, 0, "dear"), ("sought", 2, [2]), slots=[((1, 0), 1)], noted=[1])
                self.does(world, ("seek", 0, 0, "dear"), ("sought", 2, []), slots=[((0, 0), 1)])

    def test_a_dark_cell_is_not_noted(self):
        world = stocked("walk")
        place = toned(world, "dark")
        world.names["dark"] = (place, 4)
        self.does(world, ("seek", 0, 0, "dark"), ("sought", 4, []), slots=[((0, 0), place)])

    def test_the_cell_was_given_back(self):
        for phase in PHASES:
            world = stocked(phase)
            world.heap.cells[0].fields[0] = None
            world.hands[0].slots[1] = None
            world.hands[1].slots[1] = None
            world.heap.back(1)
            self.does(world, ("seek", 0, 0, "dear"), ("sought", None, []), slots=[((0, 0), None)])
            self.does(world, ("seek", 0, 0, "dear"), ("sought", None, []))

    def test_another_cell_is_at_its_place(self):
        for phase in PHASES:
            world = stocked(phase)
            world.heap.back(1)
            toned(world, "pale" if phase == "walk" else "dark")
            self.does(world, ("seek", 1, 2, "dear"), ("sought", None, []), slots=[((1, 2), None)])

    def test_a_doomed_cell(self):
        world = stocked("give")
        place = toned(world, "pale")
        world.names["doomed"] = (place, 4)
        self.does(world, ("seek", 0, 0, "doomed"), ("sought", None, []), slots=[((0, 0), None)])
        world.sweeper.phase = "rest"
        self.does(world, ("seek", 0, 0, "doomed"), ("sought", 4, []), slots=[((0, 0), place)])

    def test_a_word_that_was_never_given(self):
        for phase in PHASES:
            world = stocked(phase)
            self.refuses(world, ("seek", 0, 0, "near"), NoName)
            self.refuses(world, ("seek", 0, 2, "dea"), NoName)
            self.refuses(new_world(), ("seek", 1, 0, "dear"), NoName)

    def test_a_name_whose_cell_is_gone_was_given_all_the_same(self):
        world = new_world()
        do(world, ("make", 0, 0, 0, 0))
        do(world, ("name", 0, 0, "dear"))
        do(world, ("drop", 0, 0))
        world.heap.back(0)
        self.does(world, ("seek", 0, 0, "dear"), ("sought", None, []))
        self.assertEqual(list(world.names), ["dear"])


class Noted(Deeds):
    def test_a_put_of_every_kind(self):
        # Places: 0 and 1 are pale, 2 and 3 are dark. Slots of hand 0 hold 2, 0, 3 and None.
        for words in EVERY_WORDS:
            for is_looked_at in (False, True):
                for old in (None, 0, 1, 3):
                    for slot, new in ((1, 0), (2, 3), (3, None)):
                        world = noting(words, is_looked_at)
                        world.heap.cells[2].fields[1] = old
                        asked = [old] if "old" in words else []
                        if "new" in words and not is_looked_at:
                            asked.append(new)
                        noted = []
                        for place in asked:
                            if place in (0, 1) and place not in noted:
                                noted.append(place)
                        births = [place + 1 for place in noted]
                        event = ("put", None if old is None else old + 1, births)
                        with self.subTest(words=words, looked=is_looked_at, old=old, new=new):
                            self.does(world, ("put", 0, 0, 1, slot), event, fields=[((2, 1), new)], noted=noted)

    def test_what_is_overwritten_goes_ahead_of_what_is_put_in(self):
        for old, new, births in ((0, 1, [1, 2]), (1, 0, [2, 1])):
            world = noting("each old new", False)
            world.heap.cells[2].fields[0] = old
            world.hands[0].slots[1] = new
            self.does(world, ("put", 0, 0, 0, 1), ("put", old + 1, births), fields=[((2, 0), new)], noted=[old, new])

    def test_one_cell_over_itself_is_noted_once(self):
        world = noting("last old new", False)
        world.heap.cells[2].fields[0] = 0
        self.does(world, ("put", 0, 0, 0, 1), ("put", 1, [1]), noted=[0])

    def test_a_pale_cell_into_its_own_field(self):
        world = noting("last new", False)
        self.does(world, ("put", 0, 1, 0, 1), ("put", None, [1]), fields=[((0, 0), 0)], noted=[0])

    def test_the_cell_that_is_written_into_is_not_noted(self):
        world = noting("last old new", False)
        self.does(world, ("put", 0, 1, 0, 3), ("put", None, []))
        self.does(world, ("put", 0, 1, 0, 2), ("put", None, []), fields=[((0, 0), 3)])

    def test_a_give_of_every_kind(self):
        for words in EVERY_WORDS:
            for is_looked_at in (False, True):
                for slot, given in ((1, 0), (2, 3), (3, None)):
                    for taker, target in ((1, 0), (0, 3), (0, 1)):
                        world = noting(words, is_looked_at)
                        told = "new" in words and not is_looked_at and given == 0
                        event = ("given", None if given is None else given + 1, [1] if told else [])
                        with self.subTest(words=words, looked=is_looked_at, given=given, taker=taker):
                            self.does(world, ("give", 0, slot, taker, target), event,
                                      slots=[((taker, target), given)], noted=[0] if told else [])

    def test_it_is_the_giver_who_counts(self):
        world = noting("each old new", True)
        world.hands[1].slots[0] = 1
        self.does(world, ("give", 0, 1, 1, 1), ("given", 1, []), slots=[((1, 1), 0)])
        self.does(world, ("give", 1, 0, 0, 3), ("given", 2, [2]), slots=[((0, 3), 1)], noted=[1])

    def test_what_a_taker_held_is_not_noted(self):
        world = noting("each old new", False)
        world.hands[1].slots[0] = 1
        self.does(world, ("give", 0, 2, 1, 0), ("given", 4, []), slots=[((1, 0), 3)])

    def test_after_a_begin_of_each_looking(self):
        # First has looked at all hands when its round begins; each and last at none.
        for looking, births in (("first", []), ("each", [2]), ("last", [2])):
            world = new_world(looking + " new")
            do(world, ("make", 0, 0, 1, 0))
            do(world, ("make", 0, 1, 0, 0))
            begin(world)
            self.is_event(do(world, ("put", 0, 0, 0, 1)), ("put", None, births))
            self.assertEqual(world.sweeper.grey, [birth - 1 for birth in births])

    def test_each_hand_counts_for_itself(self):
        world = new_world("each new", hands=(("ann", 3), ("bob", 3), ("cid", 3)))
        for hand in range(3):
            do(world, ("make", hand, 0, 1, 0))
            do(world, ("make", hand, 1, 0, 0))
        begin(world)
        world.sweeper.looked = 0b010
        self.is_event(do(world, ("put", 0, 0, 0, 1)), ("put", None, [2]))
        self.is_event(do(world, ("put", 1, 0, 0, 1)), ("put", None, []))
        self.is_event(do(world, ("put", 2, 0, 0, 1)), ("put", None, [6]))

    def test_no_phase_but_walk(self):
        for phase in ("rest", "give"):
            for words in ("first old new", "each old new", "last old new"):
                world = noting(words, False)
                world.sweeper.phase = phase
                world.heap.cells[2].fields[0] = 0
                world.hands[0].slots[1] = 1
                self.does(world, ("put", 0, 0, 0, 1), ("put", 1, []), fields=[((2, 0), 1)])
                self.does(world, ("give", 0, 1, 1, 0), ("given", 2, []), slots=[((1, 0), 1)])

    def test_no_other_deed_notes_anything(self):
        for words in EVERY_WORDS:
            world = noting(words, False)
            world.heap.cells[2].fields[0] = 1
            for deed in (
                ("get", 0, 3, 0, 0), ("copy", 0, 2, 1), ("write", 0, 1, 5), ("read", 0, 1),
                ("name", 0, 1, "dear"), ("drop", 0, 1), ("make", 0, 3, 0, 0), ("copy", 0, 2, 0),
            ):
                self.assertEqual(do(world, deed)[2], [], deed)
            self.assertEqual(world.sweeper.grey, [])
            self.assertEqual([cell.tone for cell in world.heap.cells], [0, 0, 1, 1, 1])

    def test_a_make_over_a_pale_cell_notes_nothing(self):
        for words in EVERY_WORDS:
            world = noting(words, False)
            self.does(world, ("make", 0, 1, 0, 0), ("made", 5, []), slots=[((0, 1), 4)], made=(0, 0))


class Answers(Deeds):
    def test_nothing_done_later_changes_an_event(self):
        world = noting("each old new", False)
        world.heap.cells[2].fields[0] = 1
        put = do(world, ("put", 0, 0, 0, 1))
        self.assertEqual(put, ("put", 2, [2, 1]))
        world.sweeper.grey.clear()
        do(world, ("put", 0, 0, 0, 3))
        self.assertEqual(put, ("put", 2, [2, 1]))
        put[2].append(77)
        self.assertEqual(world.sweeper.grey, [])

    def test_no_two_events_have_a_list_together(self):
        world = stocked("rest")
        deeds = [
            ("make", 0, 2, 0, 0), ("get", 0, 2, 0, 0), ("put", 0, 0, 0, 1), ("copy", 0, 1, 2), ("drop", 1, 1),
            ("give", 0, 1, 1, 1), ("write", 0, 0, 1), ("read", 0, 0), ("name", 0, 0, "near"), ("seek", 0, 2, "dear"),
        ]
        for deed in deeds:
            do(world, deed)[2].append(5)
        for deed in deeds:
            self.assertEqual(do(world, deed)[2], [], deed)

    def test_the_deed_stays_as_it_was(self):
        world = stocked("rest")
        deed = ("give", 0, 0, 1, 0)
        do(world, deed)
        self.assertEqual(deed, ("give", 0, 0, 1, 0))

    def test_each_refusal_is_its_own(self):
        world = stocked("rest")
        refused = (("read", 0, 2), ("get", 0, 0, 0, 9), ("make", 0, 0, 0, 1000), ("seek", 0, 0, "none"))
        for deed, error in zip(refused, REFUSALS):
            self.refuses(world, deed, error)

    def test_what_stands_there_now(self):
        world = stocked("rest")
        world.hands[0].slots[2] = 2
        self.does(world, ("copy", 0, 0, 2), ("copied", 3, []), slots=[((0, 0), 2)])
        world.heap.cells[2].fields[3] = 1
        self.does(world, ("get", 0, 0, 0, 3), ("got", 2, []), slots=[((0, 0), 1)])
        world.heap.cells[1].fields.append(2)
        self.does(world, ("get", 0, 0, 0, 0), ("got", 3, []), slots=[((0, 0), 2)])
        world.names["late"] = (1, 2)
        self.does(world, ("seek", 0, 0, "late"), ("sought", 2, []), slots=[((0, 0), 1)])
        world.names.clear()
        self.refuses(world, ("seek", 0, 0, "late"), NoName)
        world.heap.cells[1] = Cell(90, 0, 0, 0)
        self.does(world, ("copy", 0, 1, 1), ("copied", 90, []))

    def test_two_worlds_beside_each_other(self):
        one = stocked("walk", "each old new")
        other = stocked("walk", "each old new")
        before = whole(other)
        for deed in (("make", 0, 2, 1, 1), ("put", 0, 0, 0, 2), ("name", 0, 0, "near"), ("write", 0, 0, 4),
                     ("seek", 0, 1, "dear"), ("give", 0, 0, 1, 0), ("drop", 0, 0)):
            do(one, deed)
        self.assertEqual(whole(other), before)


if __name__ == "__main__":
    unittest.main()

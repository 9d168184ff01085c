"""Points 27 to 36 with what points 1, 3, 15, 16, 18, 20, 21, 23 and 26 say of them, and greywalk/sweeper.py."""

import copy
import unittest

from greywalk.cells import birth_at
from greywalk.deeds import do
from greywalk.errors import Full
from greywalk.sweeper import step, to_rest
from greywalk.ways import follow
from greywalk.world import begin, gone, held, looked_at, mark_of, note, roots, told_cells
from worlds import EVERY_WORDS, FIVE_HANDS, do_all, new_world, plain, round_of, steps, toned, world_in

# Hand 0 lets go of what it had, and takes it from a field that is overwritten then; a round is in its walk meanwhile.
HIDDEN = [("get", 0, 1, 0, 0), ("put", 0, 0, 0, 2)]


def all_hands(many):
    return (1 << many) - 1


def words_of(looking):
    return [words for words in EVERY_WORDS if words.split(" ")[0] == looking]


class Steps(unittest.TestCase):
    def is_event(self, answer, event):
        self.assertEqual(answer, event)
        self.assertIs(type(answer), tuple)
        self.assertEqual([type(part) for part in answer], [str, int, list])
        self.assertEqual({type(number) for number in answer[2]} - {int}, set())

    def goes(self, world, *events):
        """Each next step answers the event that is told."""
        for event in events:
            self.is_event(step(world), event)

    def does(self, world, event, noted=(), back=None, **sweeper):
        """A step answers an event and changes what is told, and nothing else."""
        twin = copy.deepcopy(world)
        for name, value in sweeper.items():
            setattr(twin.sweeper, name, value)
        for place in noted:
            twin.heap.cells[place].tone = twin.sweeper.sense
            twin.sweeper.grey.append(place)
        if back is not None:
            twin.heap.used = twin.heap.used - twin.heap.cells[back].units()
            twin.heap.cells[back] = None
        cells = list(world.heap.cells)
        self.is_event(step(world), event)
        self.assertEqual(plain(world), plain(twin))
        for place, cell in enumerate(cells):
            if place != back:
                self.assertIs(world.heap.cells[place], cell)


class Begin(Steps):
    def stocked(self, words):
        world = new_world(words)
        for many in (0, 1, 2, 3, 4):
            toned(world, "dark", many)
        world.hands[0].slots[:] = [3, None, 1, 3]
        world.hands[1].slots[:] = [1, 0, 3]
        return world

    def test_first_notes_by_hand_and_slot_each_place_once(self):
        for words in words_of("first"):
            world = self.stocked(words)
            self.does(world, ("begin", 1, [4, 2, 1]), noted=[3, 1, 0], sense=1, turn=1, phase="walk", looked=3)
            self.assertEqual(world.sweeper.grey, [3, 1, 0])
            self.assertEqual([mark_of(world, place) for place in range(5)], ["grey", "grey", "pale", "grey", "pale"])

    def test_each_and_last_note_nothing(self):
        for words in words_of("each") + words_of("last"):
            world = self.stocked(words)
            self.does(world, ("begin", 1, []), sense=1, turn=1, phase="walk", looked=0)
            self.assertEqual([mark_of(world, place) for place in range(5)], ["pale"] * 5)

    def test_the_hands_that_are_looked_at(self):
        for words in EVERY_WORDS:
            for many in range(1, 6):
                world = new_world(words, hands=FIVE_HANDS[:many])
                step(world)
                looked = all_hands(many) if words.startswith("first") else 0
                self.assertEqual(world.sweeper.looked, looked)
                self.assertEqual([looked_at(world, hand) for hand in range(many)], [looked != 0] * many)

    def test_every_slot_of_five_hands(self):
        world = new_world("first old", hands=FIVE_HANDS)
        births = []
        for hand, (name, many) in enumerate(FIVE_HANDS):
            for slot in reversed(range(many)):
                do(world, ("make", hand, slot, 0, 0))
                births.append(world.heap.born)
        backwards = []
        for name, many in FIVE_HANDS:
            backwards.extend(reversed(births[:many]))
            births = births[many:]
        self.goes(world, ("begin", 1, backwards))

    def test_nothing_is_held(self):
        for words in EVERY_WORDS:
            world = new_world(words)
            toned(world, "dark")
            world.names["dear"] = (0, 1)
            self.goes(world, ("begin", 1, []))
            self.assertEqual(mark_of(world, 0), "pale")

    def test_the_next_round_has_the_next_turn_and_the_other_sense(self):
        for words in EVERY_WORDS:
            world = new_world(words)
            do(world, ("make", 0, 0, 0, 0))
            for turn in range(1, 6):
                noted = [1] if words.startswith("first") else []
                self.goes(world, ("begin", turn, noted))
                self.assertEqual(world.sweeper.sense, turn % 2)
                self.assertEqual(world.sweeper.turn, turn)
                to_rest(world)

    def test_the_counts_begin_anew_and_at_and_stop_stay(self):
        world = self.stocked("each old new")
        round_of(world)
        self.does(world, ("begin", 2, []), sense=0, turn=2, phase="walk", looked=0, walks=0, looks=0, passes=0)
        self.assertEqual((world.sweeper.at, world.sweeper.stop), (5, 5))


class Walk(Steps):
    def walking(self, fields, words="last"):
        """A world in whose walk the cell at place 0 is grey, with these fields, and the others are pale."""
        world = world_in("walk", words)
        for many in (len(fields), 0, 1, 2):
            toned(world, "pale", many)
        world.heap.cells[0].fields[:] = fields
        note(world, 0)
        return world

    def test_no_field(self):
        for words in EVERY_WORDS:
            self.does(self.walking([], words), ("walk", 1, []), grey=[], walks=1)

    def test_fields_in_order(self):
        for words in EVERY_WORDS:
            self.does(self.walking([3, 1], words), ("walk", 1, [4, 2]), grey=[], noted=[3, 1], walks=1)
            self.does(self.walking([1, 3], words), ("walk", 1, [2, 4]), grey=[], noted=[1, 3], walks=1)

    def test_none(self):
        self.does(self.walking([None] * 8), ("walk", 1, []), grey=[], walks=1)
        self.does(self.walking([None, 2, None, 1, None]), ("walk", 1, [3, 2]), grey=[], noted=[2, 1], walks=1)

    def test_one_place_twice(self):
        self.does(self.walking([2, 1, 2, 2, 1]), ("walk", 1, [3, 2]), grey=[], noted=[2, 1], walks=1)

    def test_its_own_place(self):
        self.does(self.walking([0, 2, 0]), ("walk", 1, [3]), grey=[], noted=[2], walks=1)

    def test_a_place_that_was_given_back(self):
        world = self.walking([1, 3, 1])
        world.heap.back(1)
        self.does(world, ("walk", 1, [4]), grey=[], noted=[3], walks=1)

    def test_what_lies_now_at_a_place_that_was_given_back(self):
        world = self.walking([1, 3])
        world.heap.back(1)
        toned(world, "pale", 0)
        self.does(world, ("walk", 1, [5, 4]), grey=[], noted=[1, 3], walks=1)

    def test_what_was_noted_already(self):
        world = self.walking([1, 2, 3])
        note(world, 2)
        self.does(world, ("walk", 1, [2, 4]), grey=[2], noted=[1, 3], walks=1)

    def test_what_was_walked_already_or_made_in_the_walk(self):
        world = self.walking([1, 2, 4])
        do(world, ("make", 0, 0, 0, 0))
        world.heap.cells[2].tone = world.sweeper.sense
        self.does(world, ("walk", 1, [2]), grey=[], noted=[1], walks=1)

    def test_the_first_that_was_noted_goes_first(self):
        world = self.walking([3, 2])
        world.heap.cells[3].fields[:] = [1, 0]
        self.goes(world, ("walk", 1, [4, 3]), ("walk", 4, [2]), ("walk", 3, []), ("walk", 2, []))
        self.assertEqual((world.sweeper.grey, world.sweeper.walks), ([], 4))
        self.assertEqual([mark_of(world, place) for place in range(4)], ["dark"] * 4)

    def test_the_mark_grows_dark_as_its_walk_begins(self):
        world = self.walking([0, 1])
        self.assertEqual([mark_of(world, place) for place in (0, 1, 2)], ["grey", "pale", "pale"])
        step(world)
        self.assertEqual([mark_of(world, place) for place in (0, 1, 2)], ["dark", "grey", "pale"])

    def test_it_goes_on_while_something_is_grey_whatever_hands_hold(self):
        for words in EVERY_WORDS:
            world = self.walking([1], words)
            world.hands[0].slots[0] = 2
            self.goes(world, ("walk", 1, [2]), ("walk", 2, []))
            self.assertEqual((world.sweeper.phase, world.sweeper.looks), ("walk", 0))

    def test_a_field_is_walked_as_it_stands_then(self):
        world = self.walking([1, None], "first")
        world.hands[0].slots[:2] = [0, 3]
        do(world, ("put", 0, 0, 0, 1))
        do(world, ("put", 0, 0, 1, 1))
        self.goes(world, ("walk", 1, [4]))

    def test_what_a_deed_noted_is_walked(self):
        world = self.walking([], "first old")
        world.hands[0].slots[:2] = [3, None]
        world.heap.cells[3].fields[:] = [2, None]
        world.heap.cells[2].fields[:] = [1]
        self.assertEqual(do(world, ("put", 0, 0, 0, 1)), ("put", 3, [3]))
        self.goes(world, ("walk", 1, []), ("walk", 3, [2]), ("walk", 2, []))


class Look(Steps):
    def holding(self, words, many):
        """A world in its walk, where each hand holds a pale cell of its own, and behind it the next hand's."""
        world = world_in("walk", words, hands=FIVE_HANDS[:many])
        for hand in range(many):
            world.hands[hand].slots[1] = toned(world, "pale")
        for hand in range(many - 1):
            world.hands[hand].slots[2] = hand + 1
        return world

    def test_each_hand_by_hand(self):
        for words in words_of("each"):
            for many in range(1, 6):
                world = world_in("walk", words, hands=FIVE_HANDS[:many])
                for hand in range(many):
                    place = toned(world, "pale")
                    world.hands[hand].slots[hand % 3] = place
                    self.does(world, ("look", 1 << hand, [hand + 1]), noted=[place],
                              looks=hand + 1, looked=all_hands(hand + 1))
                    self.assertTrue(looked_at(world, hand))
                    self.does(world, ("walk", hand + 1, []), grey=[], walks=hand + 1)
                self.goes(world, ("cut", 0, []))

    def test_each_looks_where_nothing_is_to_be_noted(self):
        for words in words_of("each"):
            for many in range(1, 6):
                world = world_in("walk", words, hands=FIVE_HANDS[:many])
                for hand in range(many):
                    world.hands[hand].slots[0] = toned(world, "dark")
                for hand in range(many):
                    self.does(world, ("look", 1 << hand, []), looks=hand + 1, looked=all_hands(hand + 1))
                self.goes(world, ("cut", 0, []))

    def test_each_takes_the_least_that_was_not_looked_at(self):
        world = self.holding("each old new", 5)
        world.sweeper.looked = 0b01011
        self.does(world, ("look", 4, [3, 4]), noted=[2, 3], looks=1, looked=0b01111)
        self.goes(world, ("walk", 3, []), ("walk", 4, []))
        self.does(world, ("look", 16, [5]), noted=[4], looks=2, looked=0b11111)

    def test_each_notes_what_the_hand_holds_then(self):
        world = self.holding("each old new", 2)
        do(world, ("drop", 0, 1))
        self.goes(world, ("look", 1, [2]), ("walk", 2, []))
        do(world, ("drop", 1, 1))
        self.goes(world, ("look", 2, []), ("cut", 1, [1]))

    def test_each_hears_of_a_hand_until_it_looks_at_it(self):
        world = self.holding("each old new", 2)
        toned(world, "pale")
        world.hands[0].slots[0] = 2
        world.hands[1].slots[0] = 2
        self.goes(world, ("look", 1, [3, 1, 2]))
        for hand, old, births in ((0, None, []), (1, 4, [4, 5])):
            world.hands[hand].slots[2] = toned(world, "pale")
            self.assertEqual(do(world, ("put", hand, 0, 1, 2)), ("put", old, births))

    def test_last_all_at_once(self):
        for words in words_of("last"):
            for many in range(1, 6):
                world = self.holding(words, many)
                births = list(range(1, many + 1))
                self.does(world, ("look", all_hands(many), births), noted=list(range(many)), looks=1)
                self.assertEqual(world.sweeper.looked, 0)
                self.assertEqual([looked_at(world, hand) for hand in range(many)], [False] * many)
                self.goes(world, *[("walk", birth, []) for birth in births])
                self.goes(world, ("cut", 0, []))
                self.assertEqual(world.sweeper.looks, 1)

    def test_last_looks_again_as_long_as_something_is_noted(self):
        for words in words_of("last"):
            world = self.holding(words, 2)
            self.goes(world, ("look", 3, [1, 2]), ("walk", 1, []), ("walk", 2, []))
            for looks in (2, 3, 4):
                world.hands[1].slots[0] = toned(world, "pale")
                self.goes(world, ("look", 3, [looks + 1]), ("walk", looks + 1, []))
                self.assertEqual((world.sweeper.looks, world.sweeper.looked), (looks, 0))
            self.goes(world, ("cut", 0, []))

    def test_last_that_notes_nothing_is_the_cut(self):
        for words in words_of("last"):
            for many in range(1, 6):
                world = world_in("walk", words, hands=FIVE_HANDS[:many])
                toned(world, "pale")
                world.hands[many - 1].slots[0] = toned(world, "dark")
                self.does(world, ("cut", 1, [1]), phase="give", stop=2)
                self.assertEqual((world.sweeper.looks, world.sweeper.looked), (0, 0))

    def test_first_never_looks(self):
        for words in words_of("first"):
            for many in range(1, 6):
                world = world_in("walk", words, hands=FIVE_HANDS[:many])
                toned(world, "pale")
                toned(world, "dark")
                world.hands[0].slots[0] = 1
                self.does(world, ("cut", 1, [1]), phase="give", stop=2)

    def test_first_does_not_note_what_hands_took_meanwhile(self):
        world = self.holding("first", 2)
        self.goes(world, ("lost", 1, [0, 1]))

    def test_a_look_notes_by_hand_and_slot_each_place_once(self):
        for words in ("each", "last new"):
            world = world_in("walk", words, hands=(("ann", 9), ("bob", 3)))
            for number in range(4):
                toned(world, "pale")
            world.hands[0].slots[:] = [None, 2, 3, 2, None, 0, 0, 3, None]
            world.hands[1].slots[:] = [3, 1, None]
            births = [3, 4, 1] if words == "each" else [3, 4, 1, 2]
            places = [birth - 1 for birth in births]
            self.goes(world, ("look", 1 if words == "each" else 3, births))
            self.assertEqual(world.sweeper.grey, places)


class Cut(Steps):
    def test_an_empty_heap(self):
        for words in EVERY_WORDS:
            world = world_in("walk", words)
            world.sweeper.looked = 3
            self.does(world, ("cut", 0, []), phase="give")
            self.assertEqual((world.sweeper.at, world.sweeper.stop), (0, 0))

    def test_nothing_is_given_up(self):
        for words in EVERY_WORDS:
            world = world_in("walk", words)
            world.sweeper.looked = 3
            for number in range(3):
                toned(world, "dark")
            world.hands[0].slots[0] = 1
            self.does(world, ("cut", 0, []), phase="give", stop=3)
            self.assertEqual([mark_of(world, place) for place in range(3)], ["kept"] * 3)

    def test_all_is_given_up(self):
        for words in EVERY_WORDS:
            world = world_in("walk", words)
            world.sweeper.looked = 3
            for number in range(4):
                toned(world, "pale")
            self.does(world, ("cut", 4, [1, 2, 3, 4]), phase="give", stop=4)
            self.assertEqual([mark_of(world, place) for place in range(4)], ["doomed"] * 4)

    def test_births_by_rising_place(self):
        world = world_in("walk", "first old")
        for tone in ("pale", "pale", "dark", "pale", "pale", "pale"):
            toned(world, tone)
        for place in (5, 3, 0):
            world.heap.back(place)
        toned(world, "pale")
        toned(world, "pale")
        self.does(world, ("cut", 4, [7, 2, 8, 5]), phase="give", stop=6)

    def test_at_begins_anew(self):
        world = new_world("first old")
        do(world, ("make", 0, 0, 0, 0))
        round_of(world)
        do(world, ("make", 0, 1, 0, 0))
        self.goes(world, ("begin", 2, [1, 2]), ("walk", 1, []), ("walk", 2, []))
        self.assertEqual((world.sweeper.at, world.sweeper.stop), (1, 1))
        self.does(world, ("cut", 0, []), phase="give", at=0, stop=2)

    def test_a_weak_name_keeps_nothing(self):
        for words in EVERY_WORDS:
            world = new_world(words)
            do_all(world, [("make", 0, 0, 0, 0), ("name", 0, 0, "dear"), ("drop", 0, 0)])
            events = round_of(world)
            self.assertIn(("cut", 1, [1]), events)
            self.assertIn(("back", 1, [0]), events)
            self.assertEqual(world.names, {"dear": (0, 1)})
            self.assertEqual(do(world, ("seek", 0, 0, "dear")), ("sought", None, []))

    def test_a_weak_name_that_was_followed_keeps_its_cell(self):
        for words in EVERY_WORDS:
            world = new_world(words)
            do_all(world, [("make", 0, 0, 0, 0), ("name", 0, 0, "dear"), ("drop", 0, 0)])
            step(world)
            self.assertEqual(do(world, ("seek", 1, 2, "dear")), ("sought", 1, [1]))
            do(world, ("drop", 1, 2))
            events = round_of(world)
            self.assertIn(("walk", 1, []), events)
            self.assertIn(("cut", 0, []), events)
            self.assertIn(("cut", 1, [1]), round_of(world))

    def test_a_cell_given_up_is_not_found_though_it_is_still_there(self):
        world = new_world("first old")
        do_all(world, [("make", 0, 0, 0, 0), ("name", 0, 0, "dear"), ("drop", 0, 0)])
        self.goes(world, ("begin", 1, []), ("cut", 1, [1]))
        self.assertEqual(birth_at(world.heap, 0), 1)
        self.assertTrue(gone(world, 0, 1))
        self.assertEqual(do(world, ("seek", 0, 0, "dear")), ("sought", None, []))

    def test_what_was_made_in_the_walk_stays(self):
        for words in EVERY_WORDS:
            world = new_world(words)
            do(world, ("make", 0, 0, 0, 0))
            step(world)
            do_all(world, [("make", 0, 1, 0, 0), ("drop", 0, 1), ("drop", 0, 0)])
            events = round_of(world)
            given = [] if words.startswith("first") else [1]
            self.assertIn(("cut", len(given), given), events)
            self.assertEqual(birth_at(world.heap, 1), 2)


class Loss(Steps):
    def is_lost(self, world, birth, way, stop):
        """The next step tells a loss, and each later one tells it again and changes nothing."""
        event = ("lost", birth, way)
        self.does(world, event, phase="lost", loss=event, at=0, stop=stop)
        self.assertEqual(birth_at(world.heap, follow(world.heap, roots(world), tuple(way))), birth)
        for number in range(3):
            self.does(world, event)

    def walking(self, tones, words="first"):
        world = world_in("walk", words)
        world.sweeper.looked = 3
        for tone in tones:
            toned(world, tone)
        return world

    def test_by_a_slot(self):
        world = self.walking(["dark", "pale"])
        world.hands[0].slots[0] = 0
        world.hands[1].slots[2] = 1
        self.is_lost(world, 2, [1, 2], 2)

    def test_by_a_field(self):
        world = self.walking(["dark", "pale", "dark"])
        world.hands[1].slots[0] = 0
        world.heap.cells[0].fields[:] = [None, 2]
        world.heap.cells[2].fields[:] = [0, 1]
        self.is_lost(world, 2, [1, 0, 1, 1], 3)

    def test_by_a_weak_name_whose_cell_stays(self):
        world = self.walking(["dark", "pale", "pale"])
        world.heap.cells[0].fields[:] = [None, 1]
        world.names["gone"] = (1, 9)
        world.names["pale"] = (2, 3)
        world.names["dear"] = (0, 1)
        self.is_lost(world, 2, [2, 2, 1], 3)

    def test_a_pale_cell_that_is_named_alone_is_no_loss(self):
        world = self.walking(["pale", "pale"])
        world.heap.cells[0].fields[:] = [1, 1]
        world.names["dear"] = (0, 1)
        self.does(world, ("cut", 2, [1, 2]), phase="give", stop=2)

    def test_the_row_of_the_names_stands_behind_the_last_hand(self):
        for many in range(1, 6):
            world = world_in("walk", "first", hands=FIVE_HANDS[:many])
            toned(world, "dark")
            toned(world, "pale")
            world.heap.cells[0].fields[1] = 1
            world.names["dear"] = (0, 1)
            self.is_lost(world, 2, [many, 0, 1], 2)

    def test_the_first_in_the_order_of_what_is_reached(self):
        world = self.walking(["dark", "pale", "pale", "pale", "dark"])
        world.hands[0].slots[0] = 4
        world.heap.cells[4].fields[:] = [1, 2]
        world.hands[1].slots[1] = 3
        self.is_lost(world, 4, [1, 1], 5)

    def test_the_first_of_two_fields_and_of_two_ways(self):
        world = self.walking(["dark", "pale", "pale"])
        world.hands[0].slots[1] = 0
        world.hands[1].slots[0] = 0
        world.heap.cells[0].fields[:] = [2, 1]
        world.names["dear"] = (0, 1)
        self.is_lost(world, 3, [0, 1, 0], 3)

    def test_a_hand_goes_ahead_of_a_weak_name(self):
        world = self.walking(["dark", "pale", "pale"])
        world.names["dear"] = (0, 1)
        world.heap.cells[0].fields[0] = 1
        world.hands[1].slots[2] = 2
        self.is_lost(world, 3, [1, 2], 3)

    def test_the_shorter_way_goes_ahead(self):
        world = self.walking(["dark", "dark", "pale", "pale"])
        world.hands[0].slots[0] = 0
        world.heap.cells[0].fields[0] = 1
        world.heap.cells[1].fields[0] = 2
        world.names["dear"] = (1, 2)
        world.heap.cells[1].fields[1] = 3
        self.is_lost(world, 3, [2, 0, 0], 4)

    def test_what_was_done_by_deeds(self):
        make = [("make", 0, 0, 1, 0), ("make", 0, 1, 0, 0), ("put", 0, 0, 0, 1), ("drop", 0, 1)]
        for words in ("first", "first new"):
            world = new_world(words)
            do_all(world, make)
            self.goes(world, ("begin", 1, [1]))
            do_all(world, HIDDEN)
            self.goes(world, ("walk", 1, []))
            self.is_lost(world, 2, [0, 1], 2)
        for words in ("each", "each new"):
            world = new_world(words)
            do_all(world, make)
            self.goes(world, ("begin", 1, []), ("look", 1, [1]))
            do_all(world, HIDDEN)
            self.goes(world, ("walk", 1, []), ("look", 2, []))
            self.is_lost(world, 2, [0, 1], 2)

    def test_what_was_put_in_by_deeds(self):
        for words, between in (("last", []), ("last old", []), ("each", [1, 2]), ("each old", [1, 2])):
            world = new_world(words)
            do(world, ("make", 0, 1, 0, 0))
            self.goes(world, ("begin", 1, []))
            do_all(world, [("make", 0, 0, 1, 0), ("put", 0, 0, 0, 1), ("drop", 0, 1)])
            self.goes(world, *[("look", hands, []) for hands in between])
            self.is_lost(world, 1, [0, 0, 0], 2)

    def test_by_a_name_by_deeds(self):
        world = new_world("last old")
        do(world, ("make", 1, 2, 0, 0))
        self.goes(world, ("begin", 1, []))
        do_all(world, [("make", 1, 0, 2, 0), ("put", 1, 0, 1, 2), ("name", 1, 0, "dear"),
                       ("drop", 1, 2), ("drop", 1, 0)])
        self.is_lost(world, 1, [2, 0, 1], 2)

    def test_the_same_deeds_without_the_name_are_no_loss(self):
        world = new_world("last old")
        do(world, ("make", 1, 2, 0, 0))
        self.goes(world, ("begin", 1, []))
        do_all(world, [("make", 1, 0, 2, 0), ("put", 1, 0, 1, 2), ("drop", 1, 2), ("drop", 1, 0)])
        self.goes(world, ("cut", 1, [1]), ("back", 1, [0]), ("pass", 1, []), ("end", 1, [0, 0, 2]))
        self.assertEqual(told_cells(world), [(1, 2, 0, 0, [None, None], "kept")])
        self.goes(world, ("begin", 2, []), ("cut", 1, [2]), ("pass", 0, []), ("back", 2, [1]), ("end", 2, [0, 0, 2]))

    def test_marks_in_a_lost_world(self):
        world = self.walking(["dark", "pale"])
        world.hands[0].slots[0] = 1
        step(world)
        self.assertEqual([mark_of(world, 0), mark_of(world, 1)], ["dark", "pale"])

    def test_the_counts_stay(self):
        world = new_world("each")
        do_all(world, [("make", 0, 0, 1, 0), ("make", 0, 1, 0, 0), ("put", 0, 0, 0, 1), ("drop", 0, 1)])
        steps(world, 2)
        do_all(world, HIDDEN)
        steps(world, 3)
        sweeper = world.sweeper
        self.assertEqual((sweeper.phase, sweeper.turn, sweeper.walks, sweeper.looks, sweeper.passes, sweeper.looked),
                         ("lost", 1, 1, 2, 0, 3))

    def test_no_list_of_it_is_shared(self):
        world = self.walking(["dark", "pale"])
        world.hands[0].slots[3] = 1
        for number in range(4):
            event = step(world)
            self.assertEqual(event, ("lost", 2, [0, 3]))
            event[2].append(7)
            self.assertEqual(world.sweeper.loss, ("lost", 2, [0, 3]))

    def test_no_world_has_a_loss_before_it_is_told(self):
        world = new_world()
        self.assertIsNone(world.sweeper.loss)
        round_of(world)
        self.assertIsNone(world.sweeper.loss)


class Give(Steps):
    def giving(self, tones, words="first old", room=1000):
        """A world behind its cut, with a cell of each tone, or none where the tone is "none"."""
        world = world_in("walk", words, room)
        world.sweeper.looked = 3
        for tone in tones:
            toned(world, "dark" if tone == "none" else tone)
        for place, tone in enumerate(tones):
            if tone == "none":
                world.heap.back(place)
        step(world)
        return world

    def test_place_by_place(self):
        for words in EVERY_WORDS:
            world = self.giving(["pale", "dark", "none", "pale"], words)
            self.does(world, ("back", 1, [0]), back=0, at=1, passes=1)
            self.does(world, ("pass", 1, []), at=2, passes=2)
            self.does(world, ("pass", 2, []), at=3, passes=3)
            self.does(world, ("back", 4, [3]), back=3, at=4, passes=4)
            self.does(world, ("end", 1, [0, 0, 4]), phase="rest")

    def test_the_room_of_what_was_given_back(self):
        world = world_in("walk", "first old", 20)
        toned(world, "pale", 3, 10)
        step(world)
        with self.assertRaises(Full):
            do(world, ("make", 0, 0, 0, 6))
        self.assertEqual(world.heap.used, 14)
        step(world)
        self.assertEqual((world.heap.used, world.heap.cells), (0, [None]))
        self.assertEqual(do(world, ("make", 0, 0, 0, 6)), ("made", 2, []))

    def test_cells_made_meanwhile_are_passed(self):
        world = self.giving(["pale", "none", "pale"])
        self.goes(world, ("back", 1, [0]))
        self.assertEqual(do_all(world, [("make", 0, 0, 0, 0), ("make", 0, 1, 0, 0), ("make", 0, 2, 0, 0)]),
                         [("made", 4, []), ("made", 5, []), ("made", 6, [])])
        self.assertEqual(held(world)[0], [0, 1, 3, None])
        self.assertEqual([mark_of(world, place) for place in range(4)], ["kept", "kept", "doomed", "kept"])
        self.goes(world, ("pass", 1, []), ("back", 3, [2]), ("end", 1, [0, 0, 3]))
        self.assertEqual(world.heap.there(), [0, 1, 3])
        self.assertEqual((world.sweeper.at, world.sweeper.stop), (3, 3))

    def test_cells_let_go_meanwhile_stay_until_the_next_round(self):
        world = self.giving(["dark"])
        world.hands[0].slots[0] = 0
        do_all(world, [("make", 0, 1, 0, 0), ("drop", 0, 0), ("drop", 0, 1)])
        self.goes(world, ("pass", 0, []), ("end", 1, [0, 0, 1]))
        self.goes(world, ("begin", 2, []), ("cut", 2, [1, 2]))
        self.goes(world, ("back", 1, [0]), ("back", 2, [1]), ("end", 2, [0, 0, 2]))

    def test_deeds_note_nothing(self):
        for words in EVERY_WORDS:
            world = self.giving(["pale", "dark", "dark"], words)
            world.sweeper.looked = 0
            world.hands[0].slots[:3] = [1, 2, None]
            world.heap.cells[1].fields[0] = 2
            world.names["dear"] = (2, 3)
            self.assertEqual(
                do_all(world, [("put", 0, 0, 0, 1), ("give", 0, 1, 1, 0), ("seek", 1, 1, "dear")]),
                [("put", 3, []), ("given", 3, []), ("sought", 3, [])])
            self.assertEqual(world.sweeper.grey, [])

    def test_a_heap_without_places(self):
        for words in EVERY_WORDS:
            world = self.giving([], words)
            do(world, ("make", 0, 0, 0, 0))
            self.does(world, ("end", 1, [0, 0, 0]), phase="rest")

    def test_looked_and_counts_stay_between_rounds(self):
        for words, looked, looks in (("first old", 3, 0), ("each old new", 3, 2), ("last new", 0, 1)):
            world = new_world(words)
            do_all(world, [("make", 0, 0, 0, 0), ("make", 1, 0, 0, 0), ("make", 1, 0, 0, 0)])
            self.assertEqual(round_of(world)[-1], ("end", 1, [2, looks, 3]))
            do_all(world, [("make", 1, 1, 0, 0), ("drop", 0, 0)])
            sweeper = world.sweeper
            self.assertEqual((sweeper.phase, sweeper.turn, sweeper.sense), ("rest", 1, 1))
            self.assertEqual((sweeper.looked, sweeper.walks, sweeper.looks, sweeper.passes), (looked, 2, looks, 3))
            self.assertEqual((sweeper.at, sweeper.stop, sweeper.grey), (3, 3, []))
            self.assertIsNone(sweeper.loss)

    def test_every_cell_is_kept_at_rest_and_has_the_sense(self):
        world = self.giving(["pale", "dark", "pale"])
        do(world, ("make", 0, 0, 0, 0))
        to_rest(world)
        for place in world.heap.there():
            self.assertEqual(mark_of(world, place), "kept")
            self.assertEqual(world.heap.cells[place].tone, world.sweeper.sense)


class Rounds(Steps):
    def events_of(self, words, many):
        """The events of a round in which hand h holds cell h + 1; these hold the next cell, and one is left over."""
        looking = words.split(" ")[0]
        own = list(range(1, many + 1))
        common = many + 1
        walks = {birth: ("walk", birth, [common] if birth == 1 else []) for birth in own + [common]}
        walks[common] = ("walk", common, [])
        if looking == "first":
            events = [("begin", 1, own)] + [walks[birth] for birth in own] + [walks[common]]
            looks = 0
        if looking == "last":
            events = [("begin", 1, []), ("look", all_hands(many), own)]
            events.extend([walks[birth] for birth in own + [common]])
            looks = 1
        if looking == "each":
            events = [("begin", 1, []), ("look", 1, [1]), walks[1], walks[common]]
            for hand in range(1, many):
                events.extend([("look", 1 << hand, [hand + 1]), walks[hand + 1]])
            looks = many
        events.append(("cut", 1, [many + 2]))
        events.extend([("pass", place, []) for place in range(many + 1)])
        events.extend([("back", many + 2, [many + 1]), ("end", 1, [many + 1, looks, many + 2])])
        return events

    def test_a_whole_round_of_each_kind_with_one_to_five_hands(self):
        for words in EVERY_WORDS:
            for many in range(1, 6):
                world = new_world(words, hands=FIVE_HANDS[:many])
                for hand in range(many):
                    do(world, ("make", hand, 1, 2, 0))
                do_all(world, [("make", 0, 2, 0, 0), ("put", 0, 1, 1, 2)])
                for hand in range(1, many):
                    do_all(world, [("give", 0, 2, hand, 2), ("put", hand, 1, 0, 2), ("drop", hand, 2)])
                do_all(world, [("make", 0, 2, 0, 7), ("drop", 0, 2)])
                self.goes(world, *self.events_of(words, many))
                self.assertEqual(world.sweeper.phase, "rest")
                self.assertEqual(world.heap.there(), list(range(many + 1)))

    def test_an_empty_world(self):
        for words in EVERY_WORDS:
            for many in range(1, 6):
                world = new_world(words, hands=FIVE_HANDS[:many])
                looks = many if words.startswith("each") else 0
                for turn in (1, 2, 3):
                    self.goes(world, ("begin", turn, []))
                    self.goes(world, *[("look", 1 << hand, []) for hand in range(looks)])
                    self.goes(world, ("cut", 0, []), ("end", turn, [0, looks, 0]))

    def test_a_ring_that_nobody_holds(self):
        for words in EVERY_WORDS:
            world = new_world(words)
            do_all(world, [("make", 0, 0, 1, 0), ("make", 0, 1, 1, 0), ("put", 0, 0, 0, 1), ("put", 0, 1, 0, 0),
                           ("drop", 0, 0)])
            self.assertIn(("cut", 0, []), round_of(world))
            do(world, ("drop", 0, 1))
            self.assertIn(("cut", 2, [1, 2]), round_of(world))
            self.assertEqual(world.heap.used, 0)

    def test_a_long_chain(self):
        for words in ("first old", "each old new", "last new"):
            world = new_world(words, room=10 ** 6)
            for number in range(1000):
                do_all(world, [("make", 0, 1, 1, 0), ("put", 0, 1, 0, 0), ("copy", 0, 0, 1)])
            events = round_of(world)
            walks = [event[1] for event in events if event[0] == "walk"]
            self.assertEqual(walks, list(range(1000, 0, -1)))
            do_all(world, [("drop", 0, 0), ("drop", 0, 1)])
            self.assertIn(("cut", 1000, list(range(1, 1001))), round_of(world))

    def test_a_place_is_used_again_and_a_birth_is_not(self):
        world = new_world("last new", room=4)
        for turn in range(1, 8):
            self.assertEqual(do(world, ("make", 0, 0, 3, 0)), ("made", turn, []))
            do(world, ("drop", 0, 0))
            self.goes(world, ("begin", turn, []), ("cut", 1, [turn]), ("back", turn, [0]), ("end", turn, [0, 0, 1]))


class ToRest(Steps):
    def test_at_rest(self):
        for words in EVERY_WORDS:
            world = new_world(words)
            do(world, ("make", 0, 0, 0, 0))
            for number in range(2):
                before = plain(world)
                self.assertEqual(to_rest(world), 0)
                self.assertEqual(plain(world), before)
                round_of(world)

    def test_from_each_step_of_a_round(self):
        for words in EVERY_WORDS:
            world = new_world(words)
            do_all(world, [("make", 0, 0, 0, 0), ("make", 1, 0, 0, 0), ("make", 1, 0, 0, 0)])
            twin = copy.deepcopy(world)
            whole = len(round_of(twin))
            for done in range(1, whole):
                step(world)
                third = copy.deepcopy(world)
                answer = to_rest(third)
                self.assertIs(type(answer), int)
                self.assertEqual(answer, whole - done)
                self.assertEqual(plain(third), plain(twin))

    def test_to_a_loss(self):
        world = new_world("last")
        do(world, ("make", 0, 1, 0, 0))
        step(world)
        do_all(world, [("make", 0, 0, 1, 0), ("put", 0, 0, 0, 1), ("drop", 0, 1)])
        self.assertEqual(to_rest(world), 1)
        self.assertEqual((world.sweeper.phase, world.sweeper.loss), ("lost", ("lost", 1, [0, 0, 0])))
        before = plain(world)
        self.assertEqual(to_rest(world), 0)
        self.assertEqual(plain(world), before)

    def test_the_steps_are_counted_to_the_loss(self):
        for many in range(1, 6):
            world = new_world("each", hands=FIVE_HANDS[:many])
            do_all(world, [("make", 0, 0, 1, 0), ("make", 0, 1, 0, 0), ("put", 0, 0, 0, 1), ("drop", 0, 1)])
            steps(world, 2)
            do_all(world, HIDDEN)
            self.assertEqual(to_rest(world), many + 1)
            self.assertEqual(world.sweeper.phase, "lost")


class OwnLists(Steps):
    def test_no_event_that_was_told_changes_later_and_none_changes_the_world(self):
        for words in EVERY_WORDS:
            world = new_world(words)
            do_all(world, [("make", 0, 0, 2, 0), ("make", 1, 0, 2, 0), ("make", 1, 1, 0, 0), ("put", 1, 0, 0, 1),
                           ("drop", 1, 1), ("make", 1, 1, 0, 0), ("drop", 1, 1)])
            twin = copy.deepcopy(world)
            kept = []
            told = []
            for number in range(40):
                event = step(world)
                kept.append(event)
                told.append(copy.deepcopy(event))
                spoiled = step(twin)
                self.assertEqual(spoiled, event)
                spoiled[2].append(99)
                spoiled[2][:1] = []
                self.assertEqual(plain(twin), plain(world))
            self.assertEqual(kept, told)
            lists = [id(event[2]) for event in kept]
            self.assertEqual(len(set(lists)), len(lists))

    def test_no_list_is_one_of_the_world_s(self):
        world = new_world("first old")
        do(world, ("make", 0, 0, 0, 0))
        event = step(world)
        self.assertIsNot(event[2], world.sweeper.grey)
        self.assertIsNot(event[2], world.hands[0].slots)


if __name__ == "__main__":
    unittest.main()

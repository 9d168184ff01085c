"""Points 18, 19, 20, 21 and 23 with what points 1, 3 and 4 say of them, and the part greywalk/world.py."""

import unittest

from greywalk.cells import Heap
from greywalk.kinds import First, Kind, Last, kind_of
from greywalk.world import (
    Hand, Sweeper, World, begin, births_held, gone, held, looked_at, mark_of, note, roots, told_cells,
)
from worlds import EVERY_WORDS, PHASES, new_world, toned, whole, world_in

FIVE = [("ann", 3), ("bob", 9), ("cid", 4), ("dot", 5), ("eve", 3)]
FRESH = {
    "sense": 0, "phase": "rest", "grey": [], "looked": 0, "turn": 0, "at": 0, "stop": 0,
    "walks": 0, "looks": 0, "passes": 0, "loss": None,
}


class New(unittest.TestCase):
    def test_a_hand(self):
        for many in range(3, 10):
            hand = Hand("ann", many)
            self.assertEqual((hand.name, hand.slots), ("ann", [None] * many))
            self.assertIs(type(hand.slots), list)
        self.assertEqual(Hand(name="bob", many=3).slots, [None, None, None])

    def test_two_hands_have_no_list_together(self):
        one = Hand("ann", 3)
        other = Hand("ann", 3)
        one.slots[0] = 1
        self.assertEqual(other.slots, [None, None, None])

    def test_a_sweeper(self):
        sweeper = Sweeper()
        for name, value in FRESH.items():
            self.assertEqual(getattr(sweeper, name), value, name)
            self.assertIs(type(getattr(sweeper, name)), type(value), name)

    def test_two_sweepers_have_no_list_together(self):
        one = Sweeper()
        one.grey.append(1)
        self.assertEqual(Sweeper().grey, [])

    def test_a_world(self):
        kind = kind_of("each old new")
        world = World(44, kind, FIVE)
        self.assertIsInstance(world.heap, Heap)
        self.assertEqual((world.heap.room, world.heap.used, world.heap.born, world.heap.cells), (44, 0, 0, []))
        self.assertIs(world.kind, kind)
        self.assertIs(type(world.hands), list)
        self.assertEqual([(hand.name, len(hand.slots)) for hand in world.hands], FIVE)
        for hand in world.hands:
            self.assertIsInstance(hand, Hand)
            self.assertEqual(set(hand.slots), {None})
        self.assertEqual(world.names, {})
        self.assertIs(type(world.names), dict)
        self.assertIsInstance(world.sweeper, Sweeper)
        for name, value in FRESH.items():
            self.assertEqual(getattr(world.sweeper, name), value, name)

    def test_a_world_by_the_names_of_its_arguments(self):
        world = World(room=4, kind=Kind(Last(), 2), hands=[("ann", 3)])
        self.assertEqual((world.heap.room, world.kind.words(), len(world.hands)), (4, "last new", 1))

    def test_what_is_handed_in_is_neither_changed_nor_kept(self):
        hands = list(FIVE)
        kind = Kind(First(), 1)
        world = World(100, kind, hands)
        world.hands[0].slots[0] = 0
        world.hands[1].name = "zoe"
        begin(world)
        self.assertEqual(hands, FIVE)
        self.assertEqual((kind.looking.word(), kind.tells), ("first", 1))
        hands.append(("fay", 3))
        hands[0] = ("gus", 9)
        self.assertEqual([hand.name for hand in world.hands], ["ann", "zoe", "cid", "dot", "eve"])

    def test_two_worlds_have_no_list_or_dict_together(self):
        kind = kind_of("first old")
        hands = [("ann", 3), ("bob", 3)]
        one = World(100, kind, hands)
        other = World(100, kind, hands)
        before = whole(other)
        one.heap.make(2)
        one.hands[0].slots[0] = 0
        one.names["dear"] = (0, 1)
        begin(one)
        note(one, 0)
        one.hands.append(Hand("cid", 3))
        self.assertEqual(whole(other), before)


class Held(unittest.TestCase):
    def test_a_new_world(self):
        world = World(100, kind_of("last"), FIVE)
        empty = [[None] * 3, [None] * 9, [None] * 4, [None] * 5, [None] * 3]
        self.assertEqual(held(world), empty)
        self.assertEqual(births_held(world), empty)

    def test_places_and_births(self):
        world = new_world()
        for turn in range(3):
            world.heap.make(1)
        world.heap.back(0)
        world.heap.make(1)
        world.hands[0].slots[:] = [0, None, 2, 0]
        world.hands[1].slots[:] = [None, 1, 2]
        self.assertEqual(held(world), [[0, None, 2, 0], [None, 1, 2]])
        self.assertEqual(births_held(world), [[4, None, 3, 4], [None, 2, 3]])

    def test_a_place_where_no_cell_is(self):
        world = new_world()
        world.heap.make(0)
        world.heap.make(0)
        world.hands[1].slots[:] = [1, 0, None]
        world.heap.back(0)
        self.assertEqual(held(world)[1], [1, 0, None])
        self.assertEqual(births_held(world)[1], [2, None, None])

    def test_kinds_of_values(self):
        world = new_world()
        world.heap.make(0)
        world.hands[0].slots[0] = 0
        for answer in (held(world), births_held(world), roots(world)):
            self.assertIs(type(answer), list)
            self.assertEqual({type(row) for row in answer}, {list})
            self.assertIs(type(answer[0][0]), int)

    def test_in_each_phase(self):
        for phase in PHASES:
            world = world_in(phase)
            world.hands[0].slots[1] = toned(world, "pale")
            world.hands[1].slots[2] = toned(world, "dark")
            self.assertEqual(held(world), [[None, 0, None, None], [None, None, 1]])
            self.assertEqual(births_held(world), [[None, 1, None, None], [None, None, 2]])

    def test_the_lists_are_the_askers_own(self):
        world = new_world()
        world.heap.make(0)
        world.hands[0].slots[0] = 0
        for ask in (held, births_held, roots):
            before = ask(world)
            mine = ask(world)
            for row in mine:
                row.append(5)
                row[0] = 7
            mine.clear()
            self.assertEqual(ask(world), before)
        kept = (held(world), births_held(world), roots(world))
        world.hands[0].slots[0] = None
        world.hands[1].slots[1] = 0
        world.names["dear"] = (0, 1)
        self.assertEqual(kept, (
            [[0, None, None, None], [None] * 3],
            [[1, None, None, None], [None] * 3],
            [[0, None, None, None], [None] * 3, []],
        ))

    def test_asking_changes_nothing(self):
        for phase in PHASES:
            world = world_in(phase)
            place = toned(world, "pale")
            world.hands[0].slots[0] = place
            world.names["dear"] = (place, 1)
            before = whole(world)
            held(world)
            births_held(world)
            roots(world)
            told_cells(world)
            mark_of(world, place)
            looked_at(world, 0)
            gone(world, place, 1)
            self.assertEqual(whole(world), before, phase)


class LookedAt(unittest.TestCase):
    def test_every_set_of_five_hands(self):
        world = World(100, kind_of("each"), FIVE)
        for looked in range(32):
            world.sweeper.looked = looked
            for hand in range(5):
                self.assertIs(looked_at(world, hand), looked & (1 << hand) != 0)

    def test_a_new_world(self):
        world = World(100, kind_of("first old"), FIVE)
        self.assertEqual([looked_at(world, hand) for hand in range(5)], [False] * 5)

    def test_it_goes_by_the_set_alone(self):
        for words in EVERY_WORDS:
            for phase in PHASES:
                world = world_in(phase, words)
                world.sweeper.looked = 2
                self.assertEqual([looked_at(world, 0), looked_at(world, 1)], [False, True])


class Begin(unittest.TestCase):
    def test_each_looking_and_both_senses(self):
        for words in EVERY_WORDS:
            for sense in (0, 1):
                for many in range(1, 6):
                    world = World(100, kind_of(words), FIVE[:many])
                    sweeper = world.sweeper
                    sweeper.sense = sense
                    sweeper.turn = 6
                    self.assertIsNone(begin(world))
                    self.assertEqual((sweeper.sense, sweeper.phase, sweeper.turn), (1 - sense, "walk", 7))
                    looked = (1 << many) - 1 if words.startswith("first") else 0
                    self.assertEqual((sweeper.looked, sweeper.grey), (looked, []))
                    self.assertIs(type(sweeper.sense), int)

    def test_the_counts_begin_anew_and_the_rest_stays(self):
        world = new_world("each old new")
        sweeper = world.sweeper
        sweeper.walks = 3
        sweeper.looks = 4
        sweeper.passes = 5
        sweeper.at = 6
        sweeper.stop = 6
        sweeper.looked = 3
        sweeper.grey.append(2)
        begin(world)
        self.assertEqual((sweeper.walks, sweeper.looks, sweeper.passes, sweeper.grey), (0, 0, 0, []))
        self.assertEqual((sweeper.at, sweeper.stop, sweeper.looked, sweeper.loss), (6, 6, 0, None))

    def test_it_notes_nothing(self):
        for words in EVERY_WORDS:
            world = new_world(words)
            world.hands[0].slots[0] = world.heap.make(1)
            world.hands[1].slots[2] = world.heap.make(0, 4)
            world.heap.cells[0].fields[0] = 1
            world.names["dear"] = (1, 2)
            before = whole(world)
            begin(world)
            after = whole(world)
            # The heap, the kind, the hands and the weak names are as they were.
            self.assertEqual(after[:4], before[:4])
            self.assertEqual(world.sweeper.grey, [])
            self.assertEqual([mark_of(world, place) for place in (0, 1)], ["pale", "pale"])

    def test_round_by_round(self):
        world = new_world()
        for turn in range(1, 6):
            begin(world)
            self.assertEqual((world.sweeper.turn, world.sweeper.sense), (turn, turn % 2))
            world.sweeper.phase = "rest"


class Note(unittest.TestCase):
    def unnoted(self, world, place):
        before = whole(world)
        self.assertIsNone(note(world, place))
        self.assertEqual(whole(world), before)

    def test_a_pale_cell_in_a_walk(self):
        for sense in (0, 1):
            world = new_world()
            world.sweeper.sense = 1 - sense
            place = world.heap.make(1, 0, 1 - sense)
            begin(world)
            self.assertEqual(note(world, place), 1)
            self.assertEqual((world.heap.cells[place].tone, world.sweeper.grey), (sense, [place]))
            self.assertEqual(mark_of(world, place), "grey")

    def test_nothing_else_changes(self):
        world = world_in("walk")
        place = toned(world, "pale")
        world.heap.cells[place].fields[0] = toned(world, "pale")
        before = dict(vars(world.sweeper))
        note(world, place)
        self.assertEqual(dict(vars(world.sweeper)), before)
        self.assertEqual([cell.tone for cell in world.heap.cells], [1, 0])
        self.assertEqual(world.heap.cells[place].fields, [1, None])

    def test_it_comes_to_the_end(self):
        world = world_in("walk")
        for turn in range(4):
            toned(world, "pale")
        self.assertEqual([note(world, place) for place in (2, 0, 3, 1)], [3, 1, 4, 2])
        self.assertEqual(world.sweeper.grey, [2, 0, 3, 1])

    def test_each_cell_once(self):
        world = world_in("walk")
        place = toned(world, "pale")
        self.assertEqual(note(world, place), 1)
        self.unnoted(world, place)
        world.sweeper.grey.clear()
        self.unnoted(world, place)

    def test_a_dark_cell(self):
        world = world_in("walk")
        self.unnoted(world, toned(world, "dark"))

    def test_none_and_empty_places(self):
        for phase in PHASES:
            world = world_in(phase)
            toned(world, "pale")
            toned(world, "pale")
            world.heap.back(0)
            for place in (None, 0, 2, 100):
                self.unnoted(world, place)

    def test_other_phases(self):
        for phase in ("rest", "give", "lost"):
            world = world_in(phase)
            self.unnoted(world, toned(world, "pale"))
            self.unnoted(world, toned(world, "dark"))

    def test_the_birth_of_the_cell_that_is_there_now(self):
        world = world_in("walk")
        toned(world, "pale")
        world.heap.back(0)
        toned(world, "pale")
        self.assertEqual(note(world, 0), 2)


class Marks(unittest.TestCase):
    def test_each_phase_tone_and_sense(self):
        expected = {
            ("rest", True, True): "kept", ("rest", True, False): "kept",
            ("rest", False, True): "kept", ("rest", False, False): "kept",
            ("give", True, True): "kept", ("give", True, False): "kept",
            ("give", False, True): "doomed", ("give", False, False): "doomed",
        }
        for phase in ("walk", "lost"):
            expected[(phase, True, True)] = "grey"
            expected[(phase, True, False)] = "dark"
            expected[(phase, False, True)] = "pale"
            expected[(phase, False, False)] = "pale"
        for (phase, same, listed), mark in expected.items():
            for sense in (0, 1):
                world = new_world()
                world.heap.make(0, 0, sense)
                place = world.heap.make(0, 0, sense if same else 1 - sense)
                world.sweeper.phase = phase
                world.sweeper.sense = sense
                world.sweeper.grey = [0, place] if listed else [0]
                self.assertEqual(mark_of(world, place), mark, (phase, same, listed, sense))

    def test_marks_through_a_round(self):
        world = new_world()
        for turn in range(3):
            world.heap.make(0)
        self.assertEqual([mark_of(world, place) for place in range(3)], ["kept"] * 3)
        begin(world)
        self.assertEqual([mark_of(world, place) for place in range(3)], ["pale"] * 3)
        note(world, 1)
        note(world, 0)
        world.sweeper.grey.pop(0)
        self.assertEqual([mark_of(world, place) for place in range(3)], ["grey", "dark", "pale"])
        world.sweeper.phase = "give"
        world.sweeper.grey.clear()
        self.assertEqual([mark_of(world, place) for place in range(3)], ["kept", "kept", "doomed"])


class ToldCells(unittest.TestCase):
    def test_a_heap_without_cells(self):
        world = new_world()
        self.assertEqual(told_cells(world), [])
        world.heap.make(0)
        world.heap.back(0)
        self.assertEqual(told_cells(world), [])

    def test_each_phase(self):
        marks = {
            "rest": ["kept", "kept", "kept"],
            "walk": ["grey", "pale", "dark"],
            "give": ["kept", "doomed", "kept"],
            "lost": ["grey", "pale", "dark"],
        }
        for phase in PHASES:
            world = world_in(phase)
            heap = world.heap
            toned(world, "dark", 0)
            toned(world, "dark", 3, 7)
            toned(world, "pale", 1)
            toned(world, "dark", 0, 5)
            heap.back(0)
            heap.cells[1].fields[:] = [3, None, 1]
            heap.cells[2].fields[0] = 0
            heap.cells[2].load = -(10 ** 59)
            world.sweeper.grey.append(1)
            one, two, three = marks[phase]
            answer = told_cells(world)
            self.assertEqual(answer, [
                (1, 2, 7, 0, [4, None, 2], one),
                (2, 3, 0, -(10 ** 59), [None], two),
                (3, 4, 5, 0, [], three),
            ])
            self.assertIs(type(answer), list)
            for told in answer:
                self.assertIs(type(told), tuple)
                self.assertEqual([type(part) for part in told], [int, int, int, int, list, str])

    def test_a_field_tells_of_the_cell_that_lies_there_now(self):
        world = new_world()
        world.heap.make(1)
        world.heap.make(0)
        world.heap.cells[0].fields[0] = 1
        self.assertEqual(told_cells(world)[0], (0, 1, 0, 0, [2], "kept"))
        world.heap.back(1)
        self.assertEqual(told_cells(world), [(0, 1, 0, 0, [None], "kept")])
        world.heap.make(0)
        self.assertEqual(told_cells(world)[0], (0, 1, 0, 0, [3], "kept"))

    def test_the_lists_are_the_askers_own(self):
        world = new_world()
        world.heap.make(2)
        world.heap.cells[0].fields[0] = 0
        mine = told_cells(world)
        mine[0][4].append(9)
        mine[0][4][0] = None
        mine.append(None)
        self.assertEqual(world.heap.cells[0].fields, [0, None])
        self.assertEqual(told_cells(world), [(0, 1, 0, 0, [1, None], "kept")])
        kept = told_cells(world)
        world.heap.cells[0].fields[1] = 0
        world.heap.cells[0].load = 4
        world.heap.make(0)
        begin(world)
        self.assertEqual(kept, [(0, 1, 0, 0, [1, None], "kept")])


class Gone(unittest.TestCase):
    def test_the_cell_is_there(self):
        for phase in PHASES:
            for tone in ("dark", "pale"):
                world = world_in(phase)
                place = toned(world, tone)
                self.assertIs(gone(world, place, 1), phase == "give" and tone == "pale", (phase, tone))

    def test_both_senses(self):
        for sense in (0, 1):
            world = new_world()
            world.sweeper.sense = sense
            world.sweeper.phase = "give"
            world.heap.make(0, 0, 0)
            world.heap.make(0, 0, 1)
            self.assertEqual([gone(world, 0, 1), gone(world, 1, 2)], [sense == 1, sense == 0])

    def test_the_cell_was_given_back(self):
        for phase in PHASES:
            for tone in ("dark", "pale"):
                world = world_in(phase)
                place = toned(world, tone)
                world.heap.back(place)
                self.assertIs(gone(world, place, 1), True)

    def test_another_cell_is_there_now(self):
        for phase in PHASES:
            for tone in ("dark", "pale"):
                world = world_in(phase)
                place = toned(world, tone)
                world.heap.back(place)
                toned(world, tone)
                self.assertIs(gone(world, place, 1), True)
                self.assertIs(gone(world, place, 2), phase == "give" and tone == "pale")

    def test_no_such_place_or_birth(self):
        world = new_world()
        world.heap.make(0)
        for place, birth in ((0, 2), (0, 0), (1, 1), (7, 1)):
            self.assertIs(gone(world, place, birth), True)


class Roots(unittest.TestCase):
    def names_row(self, world):
        answer = roots(world)
        self.assertEqual(answer[:-1], held(world))
        self.assertEqual(len(answer), len(world.hands) + 1)
        return answer[-1]

    def test_a_new_world(self):
        world = World(100, kind_of("last"), FIVE)
        self.assertEqual(roots(world), held(world) + [[]])

    def test_what_is_held_is_told_whatever_its_tone(self):
        for phase in PHASES:
            world = world_in(phase)
            world.hands[0].slots[1] = toned(world, "pale")
            world.hands[1].slots[0] = toned(world, "dark")
            self.assertEqual(roots(world), [[None, 0, None, None], [1, None, None], []])

    def test_each_phase_and_tone(self):
        for phase in PHASES:
            world = world_in(phase)
            for word, tone in (("dark", "dark"), ("pale", "pale"), ("other", "dark")):
                place = toned(world, tone)
                world.names[word] = (place, place + 1)
            expected = [0, 1, 2] if phase == "rest" else [0, None, 2]
            self.assertEqual(self.names_row(world), expected, phase)

    def test_both_senses(self):
        for phase in ("walk", "give", "lost"):
            for sense in (0, 1):
                world = new_world()
                world.heap.make(0, 0, 0)
                world.heap.make(0, 0, 1)
                world.names["nought"] = (0, 1)
                world.names["one"] = (1, 2)
                world.sweeper.phase = phase
                world.sweeper.sense = sense
                self.assertEqual(self.names_row(world), [[0, None], [None, 1]][sense])

    def test_a_cell_that_was_given_back(self):
        for phase in PHASES:
            world = world_in(phase)
            toned(world, "dark")
            toned(world, "dark")
            world.names["first"] = (0, 1)
            world.names["second"] = (1, 2)
            world.heap.back(0)
            self.assertEqual(self.names_row(world), [None, 1], phase)

    def test_a_place_that_holds_another_cell_now(self):
        for phase in PHASES:
            world = world_in(phase)
            toned(world, "dark")
            world.names["old"] = (0, 1)
            world.heap.back(0)
            toned(world, "dark")
            world.names["new"] = (0, 2)
            self.assertEqual(self.names_row(world), [None, 0], phase)

    def test_two_names_for_one_cell(self):
        world = new_world()
        world.heap.make(0)
        world.names["one"] = (0, 1)
        world.names["two"] = (0, 1)
        self.assertEqual(self.names_row(world), [0, 0])

    def test_the_order_is_that_of_the_first_giving(self):
        world = new_world()
        for turn in range(3):
            world.heap.make(0)
        world.names["zed"] = (2, 3)
        world.names["abe"] = (0, 1)
        world.names["mim"] = (1, 2)
        self.assertEqual(self.names_row(world), [2, 0, 1])
        world.names["zed"] = (0, 1)
        self.assertEqual(self.names_row(world), [0, 0, 1])

    def test_a_noted_cell_comes_to_the_row(self):
        world = new_world()
        place = world.heap.make(0)
        world.names["dear"] = (place, 1)
        self.assertEqual(self.names_row(world), [place])
        begin(world)
        self.assertEqual(self.names_row(world), [None])
        note(world, place)
        self.assertEqual(self.names_row(world), [place])

    def test_what_stands_there_now(self):
        world = new_world()
        world.heap.make(0)
        world.names["dear"] = (0, 1)
        world.hands[0].slots[3] = 0
        self.assertEqual(roots(world), [[None, None, None, 0], [None] * 3, [0]])
        world.names.clear()
        world.hands[0].slots[3] = None
        self.assertEqual(roots(world), [[None] * 4, [None] * 3, []])


if __name__ == "__main__":
    unittest.main()

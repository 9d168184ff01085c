"""Points 8, 9 and 10 with what points 1, 3 and 4 say of them, and the interface's part greywalk/cells.py."""

import unittest

from greywalk.cells import Cell, Heap, birth_at
from greywalk.errors import EmptySlot, Full, GreyError, TextError

GREAT = 10 ** 15
BULKY = 10 ** 12


def told(heap):
    """All that stands in a heap, the cells themselves among it."""
    inner = [
        None if cell is None else (cell, cell.birth, cell.bulk, cell.load, cell.tone, list(cell.fields))
        for cell in heap.cells
    ]
    return (heap.room, heap.used, heap.born, inner)


def births(heap):
    return [None if cell is None else cell.birth for cell in heap.cells]


class Cells(unittest.TestCase):
    def test_what_a_cell_is_made_with(self):
        cell = Cell(7, 3, 20, 1)
        self.assertEqual((cell.birth, cell.bulk, cell.tone, cell.load), (7, 20, 1, 0))
        self.assertEqual(cell.fields, [None, None, None])
        self.assertIs(type(cell.fields), list)
        self.assertIs(type(cell.load), int)

    def test_what_a_cell_is_made_with_by_name(self):
        cell = Cell(birth=2, many=1, bulk=5, tone=0)
        self.assertEqual((cell.birth, cell.fields, cell.bulk, cell.tone), (2, [None], 5, 0))

    def test_nought_to_eight_fields(self):
        for many in range(9):
            cell = Cell(1, many, 0, 0)
            self.assertEqual(cell.fields, [None] * many)
            self.assertEqual(cell.units(), 1 + many)

    def test_units_with_a_bulk(self):
        for many in range(9):
            for bulk in (0, 1, 2, 999, BULKY - 1, BULKY):
                self.assertEqual(Cell(1, many, bulk, 0).units(), 1 + many + bulk)
        self.assertEqual(Cell(1, 0, 0, 0).units(), 1)
        self.assertEqual(Cell(1, 8, BULKY, 1).units(), 1000000000009)

    def test_units_go_by_neither_birth_nor_tone_nor_load_nor_what_fields_hold(self):
        cell = Cell(50, 2, 3, 1)
        cell.load = -(10 ** 59)
        cell.fields[0] = 4
        cell.fields[1] = 0
        self.assertEqual(cell.units(), 6)

    def test_units_tell_of_the_fields_that_stand_there_now(self):
        cell = Cell(1, 2, 3, 0)
        cell.fields.append(None)
        self.assertEqual(cell.units(), 7)
        cell.fields.clear()
        self.assertEqual(cell.units(), 4)

    def test_no_two_cells_have_their_fields_together(self):
        one = Cell(1, 2, 0, 0)
        other = Cell(2, 2, 0, 0)
        one.fields[0] = 5
        self.assertEqual(other.fields, [None, None])

    def test_asking_for_units_changes_nothing(self):
        cell = Cell(4, 2, 3, 1)
        cell.units()
        self.assertEqual((cell.birth, cell.fields, cell.bulk, cell.tone, cell.load), (4, [None, None], 3, 1, 0))


class Making(unittest.TestCase):
    def test_a_new_heap(self):
        heap = Heap(4)
        self.assertEqual(told(heap), (4, 0, 0, []))
        self.assertEqual(heap.there(), [])
        self.assertEqual(heap.free(), 4)
        self.assertEqual(Heap(room=GREAT).free(), GREAT)

    def test_what_is_made(self):
        heap = Heap(100)
        self.assertEqual(heap.make(3, 20, 1), 0)
        cell = heap.cells[0]
        self.assertIsInstance(cell, Cell)
        self.assertEqual((cell.birth, cell.bulk, cell.tone, cell.load), (1, 20, 1, 0))
        self.assertEqual(cell.fields, [None, None, None])
        self.assertEqual((heap.used, heap.born, heap.free()), (24, 1, 76))

    def test_bulk_and_tone_left_out(self):
        heap = Heap(100)
        heap.make(1)
        heap.make(1, 5)
        heap.make(1, tone=1)
        heap.make(many=1, bulk=6, tone=1)
        self.assertEqual([(cell.bulk, cell.tone) for cell in heap.cells], [(0, 0), (5, 0), (0, 1), (6, 1)])
        self.assertEqual(heap.used, 2 + 7 + 2 + 8)

    def test_places_rise_and_births_rise(self):
        heap = Heap(100)
        self.assertEqual([heap.make(0) for turn in range(5)], [0, 1, 2, 3, 4])
        self.assertEqual(births(heap), [1, 2, 3, 4, 5])
        self.assertEqual((heap.used, heap.born), (5, 5))

    def test_the_least_free_place(self):
        heap = Heap(100)
        for turn in range(5):
            heap.make(0)
        heap.back(3)
        heap.back(1)
        self.assertEqual(heap.make(0), 1)
        self.assertEqual(heap.make(0), 3)
        self.assertEqual(heap.make(0), 5)
        self.assertEqual(births(heap), [1, 6, 3, 7, 5, 8])

    def test_the_least_free_place_whatever_was_given_back_last(self):
        heap = Heap(100)
        for turn in range(4):
            heap.make(0)
        for place in (0, 2, 3, 1):
            heap.back(place)
        self.assertEqual([heap.make(0) for turn in range(5)], [0, 1, 2, 3, 4])

    def test_a_new_place_is_behind_all_others(self):
        heap = Heap(100)
        heap.make(0)
        heap.make(0)
        self.assertEqual(heap.make(0), 2)
        self.assertEqual(len(heap.cells), 3)

    def test_births_are_never_used_again(self):
        heap = Heap(4)
        for birth in range(1, 30):
            self.assertEqual(heap.make(0), 0)
            self.assertEqual(heap.cells[0].birth, birth)
            self.assertEqual(heap.born, birth)
            self.assertEqual(heap.back(0), birth)

    def test_a_new_cell_in_an_old_place_has_nothing_of_the_old_one(self):
        heap = Heap(100)
        heap.make(2, 5, 1)
        old = heap.cells[0]
        old.load = 77
        old.fields[1] = 0
        heap.back(0)
        heap.make(2)
        new = heap.cells[0]
        self.assertEqual((new.birth, new.load, new.bulk, new.tone, new.fields), (2, 0, 0, 0, [None, None]))
        self.assertEqual((old.birth, old.load, old.fields), (1, 77, [None, 0]))

    def test_the_greatest_cell(self):
        heap = Heap(GREAT)
        heap.make(8, BULKY)
        self.assertEqual(heap.used, 9 + BULKY)
        self.assertEqual(heap.free(), GREAT - BULKY - 9)


class Room(unittest.TestCase):
    def test_just_fits_and_one_too_many(self):
        for many, bulk in ((0, 0), (3, 0), (8, 0), (0, 7), (2, 5), (8, BULKY)):
            with self.subTest(many=many, bulk=bulk):
                units = 1 + many + bulk
                heap = Heap(units + 10)
                heap.make(4, 5)
                self.assertEqual(heap.make(many, bulk), 1)
                self.assertEqual(heap.free(), 0)
                short = Heap(units + 9)
                short.make(4, 5)
                with self.assertRaises(Full):
                    short.make(many, bulk)

    def test_the_least_room(self):
        heap = Heap(4)
        with self.assertRaises(Full):
            heap.make(4)
        with self.assertRaises(Full):
            heap.make(0, 4)
        self.assertEqual(heap.make(3), 0)
        with self.assertRaises(Full):
            heap.make(0)

    def test_the_greatest_room(self):
        heap = Heap(GREAT)
        for turn in range(999):
            heap.make(0, BULKY)
        self.assertEqual(heap.free(), BULKY - 999)
        with self.assertRaises(Full):
            heap.make(0, BULKY - 999)
        heap.make(0, BULKY - 1000)
        self.assertEqual(heap.free(), 0)

    def test_what_is_given_back_can_be_used_again(self):
        heap = Heap(4)
        heap.make(1)
        heap.make(1)
        with self.assertRaises(Full):
            heap.make(0)
        heap.back(0)
        self.assertEqual(heap.make(1), 0)
        with self.assertRaises(Full):
            heap.make(0)

    def test_a_refused_make_leaves_everything_as_it_was(self):
        heap = Heap(10)
        heap.make(1, 2, 1)
        heap.make(2)
        heap.make(0)
        heap.back(1)
        heap.cells[0].fields[0] = 2
        heap.cells[2].load = -8
        before = told(heap)
        for many, bulk in ((5, 0), (0, 5), (8, BULKY)):
            with self.assertRaises(Full):
                heap.make(many, bulk, 1)
            self.assertEqual(told(heap), before)
        self.assertEqual(heap.make(4), 1)
        self.assertEqual(births(heap), [1, 4, 3])

    def test_a_refused_make_in_a_new_heap(self):
        heap = Heap(4)
        with self.assertRaises(Full):
            heap.make(8)
        self.assertEqual(told(heap), (4, 0, 0, []))

    def test_which_refusal_it_is(self):
        with self.assertRaises(GreyError) as taken:
            Heap(4).make(0, 4)
        self.assertIs(type(taken.exception), Full)
        self.assertNotIsInstance(taken.exception, (TextError, EmptySlot))


class Back(unittest.TestCase):
    def test_what_is_given_back(self):
        heap = Heap(100)
        heap.make(1, 4)
        heap.make(2, 5)
        heap.make(3, 6)
        self.assertEqual(heap.back(1), 2)
        self.assertEqual(births(heap), [1, None, 3])
        self.assertIsNone(heap.cells[1])
        self.assertEqual((heap.used, heap.free(), heap.born), (16, 84, 3))

    def test_the_list_of_cells_is_never_shorter(self):
        heap = Heap(100)
        for turn in range(3):
            heap.make(0)
        for place in (2, 1, 0):
            heap.back(place)
            self.assertEqual(len(heap.cells), 3)
        self.assertEqual(heap.cells, [None, None, None])
        self.assertEqual((heap.used, heap.born), (0, 3))

    def test_others_stay_as_they_were(self):
        heap = Heap(100)
        heap.make(1)
        heap.make(1)
        heap.cells[0].fields[0] = 1
        first = heap.cells[0]
        heap.back(1)
        self.assertIs(heap.cells[0], first)
        self.assertEqual(first.fields, [1])

    def test_a_place_is_given_back_again_and_again(self):
        heap = Heap(100)
        heap.make(0)
        self.assertEqual(heap.back(0), 1)
        heap.make(0, 9)
        self.assertEqual(heap.back(0), 2)
        self.assertEqual((heap.used, heap.free()), (0, 100))


class There(unittest.TestCase):
    def test_places_rise_and_skip_what_is_free(self):
        heap = Heap(100)
        for turn in range(6):
            heap.make(0)
        self.assertEqual(heap.there(), [0, 1, 2, 3, 4, 5])
        for place in (4, 0, 2):
            heap.back(place)
        self.assertEqual(heap.there(), [1, 3, 5])
        heap.make(0)
        self.assertEqual(heap.there(), [0, 1, 3, 5])

    def test_none_are_there(self):
        heap = Heap(100)
        self.assertEqual(heap.there(), [])
        heap.make(0)
        heap.back(0)
        self.assertEqual(heap.there(), [])

    def test_the_list_is_the_askers_own(self):
        heap = Heap(100)
        heap.make(0)
        heap.make(0)
        mine = heap.there()
        mine.append(9)
        mine[0] = 5
        self.assertEqual(heap.there(), [0, 1])
        self.assertEqual(births(heap), [1, 2])
        self.assertEqual(heap.make(0), 2)

    def test_nothing_done_later_changes_the_list(self):
        heap = Heap(100)
        empty = heap.there()
        heap.make(0)
        heap.make(0)
        both = heap.there()
        heap.back(0)
        heap.make(0)
        heap.make(0)
        heap.there().clear()
        self.assertEqual((empty, both), ([], [0, 1]))

    def test_asking_changes_nothing(self):
        heap = Heap(100)
        heap.make(1, 2, 1)
        heap.make(0)
        heap.back(0)
        before = told(heap)
        heap.there()
        heap.free()
        birth_at(heap, 0)
        birth_at(heap, 1)
        birth_at(heap, None)
        self.assertEqual(told(heap), before)


class BirthAt(unittest.TestCase):
    def test_where_a_cell_is(self):
        heap = Heap(100)
        for turn in range(3):
            heap.make(0)
        self.assertEqual([birth_at(heap, place) for place in range(3)], [1, 2, 3])

    def test_none_for_a_place(self):
        heap = Heap(100)
        self.assertIsNone(birth_at(heap, None))
        heap.make(0)
        self.assertIsNone(birth_at(heap, None))

    def test_where_no_cell_is_any_more(self):
        heap = Heap(100)
        heap.make(0)
        heap.make(0)
        heap.back(0)
        self.assertIsNone(birth_at(heap, 0))
        self.assertEqual(birth_at(heap, 1), 2)
        heap.make(0)
        self.assertEqual(birth_at(heap, 0), 3)

    def test_where_no_cell_ever_was(self):
        heap = Heap(100)
        self.assertIsNone(birth_at(heap, 0))
        heap.make(0)
        self.assertIsNone(birth_at(heap, 1))
        self.assertIsNone(birth_at(heap, -1))


class FromOutside(unittest.TestCase):
    def test_a_cell_that_is_taken_out(self):
        heap = Heap(10)
        for turn in range(3):
            heap.make(1)
        heap.cells[1] = None
        self.assertEqual(heap.there(), [0, 2])
        self.assertIsNone(birth_at(heap, 1))
        self.assertEqual((heap.used, heap.free(), heap.born), (6, 4, 3))
        self.assertEqual(heap.make(1), 1)
        self.assertEqual((heap.used, birth_at(heap, 1)), (8, 4))

    def test_a_cell_that_is_laid_elsewhere(self):
        heap = Heap(10)
        heap.make(0)
        heap.make(0)
        heap.back(0)
        heap.cells[0] = heap.cells[1]
        heap.cells[1] = None
        self.assertEqual(heap.there(), [0])
        self.assertEqual((birth_at(heap, 0), birth_at(heap, 1)), (2, None))
        self.assertEqual(heap.make(0), 1)
        self.assertEqual(heap.back(0), 2)
        self.assertEqual(heap.used, 1)

    def test_used_goes_by_make_and_back_alone(self):
        heap = Heap(10)
        heap.make(2)
        cell = heap.cells[0]
        cell.fields[0] = 0
        heap.cells.append(None)
        self.assertEqual((heap.used, heap.free()), (3, 7))
        heap.cells[0] = None
        self.assertEqual((heap.used, heap.free()), (3, 7))
        with self.assertRaises(Full):
            heap.make(7)
        heap.cells[0] = cell
        self.assertEqual(heap.back(0), 1)
        self.assertEqual((heap.used, heap.free()), (0, 10))

    def test_places_that_are_put_behind(self):
        heap = Heap(10)
        heap.make(0)
        heap.cells.append(None)
        self.assertEqual(heap.there(), [0])
        self.assertEqual(heap.make(0), 1)
        self.assertEqual(heap.make(0), 2)


class TwoHeaps(unittest.TestCase):
    def test_two_heaps_beside_each_other(self):
        one = Heap(10)
        other = Heap(20)
        one.make(2, 1, 1)
        self.assertEqual(told(other), (20, 0, 0, []))
        self.assertEqual(other.make(3), 0)
        self.assertEqual(other.make(0), 1)
        self.assertEqual(one.there(), [0])
        self.assertEqual((one.used, one.born, one.free()), (4, 1, 6))
        self.assertEqual((other.used, other.born, other.free()), (5, 2, 15))
        self.assertEqual((birth_at(one, 0), birth_at(other, 0)), (1, 1))
        one.cells[0].fields[0] = 0
        self.assertEqual(other.cells[0].fields, [None, None, None])
        other.back(0)
        self.assertEqual((birth_at(one, 0), birth_at(other, 0)), (1, None))
        self.assertEqual((one.make(0), other.make(0)), (1, 0))
        self.assertEqual((births(one), births(other)), ([1, 2], [3, 2]))

    def test_a_full_heap_beside_an_empty_one(self):
        one = Heap(4)
        other = Heap(4)
        one.make(3)
        with self.assertRaises(Full):
            one.make(0)
        self.assertEqual(other.make(3), 0)


if __name__ == "__main__":
    unittest.main()

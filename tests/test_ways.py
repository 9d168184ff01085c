"""Points 11, 12 and 13 with what points 1 and 3 say of them, and the interface's part greywalk/ways.py."""

import itertools
import unittest

from greywalk.cells import Heap
from greywalk.ways import follow, outside, reached
from worlds import heap_of, whole_heap


def least_ways(fields, rows):
    """What reached is to list, told otherwise: each place by its least way, the shorter ways ahead of the longer.

    Each way is tried, so this is for few cells alone. `fields` is as heap_of takes it.
    """

    def leads(way):
        place = rows[way[0]][way[1]]
        for field in way[2:]:
            if place is None or fields[place] is None or field >= len(fields[place]):
                return None
            place = fields[place][field]
        if place is None or fields[place] is None:
            return None
        return place

    starts = [(row, slot) for row in range(len(rows)) for slot in range(len(rows[row]))]
    most = max([len(inner) for inner in fields if inner is not None] + [0])
    found = {}
    for length in range(len(fields)):
        for start in starts:
            for behind in itertools.product(range(most), repeat=length):
                place = leads(start + behind)
                if place is not None and place not in found:
                    found[place] = start + behind
    return list(found.items())


class Ways(unittest.TestCase):
    def reaches(self, heap, rows, expected):
        answer = reached(heap, rows)
        self.assertEqual(answer, expected)
        self.assertIs(type(answer), list)
        for pair in answer:
            self.assertIs(type(pair), tuple)
            self.assertIs(type(pair[0]), int)
            self.assertIs(type(pair[1]), tuple)
            self.assertEqual([type(step) for step in pair[1]], [int] * len(pair[1]))
            self.assertEqual(follow(heap, rows, pair[1]), pair[0])


class Follow(unittest.TestCase):
    def setUp(self):
        # Place 3 is empty; the list of cells has no place 9.
        self.heap = heap_of([[1, None, 3], [2, 0], [], None, [4, 1]])

    def leads(self, rows, way, expected):
        answer = follow(self.heap, rows, way)
        self.assertEqual(answer, expected, (rows, way))
        if expected is not None:
            self.assertIs(type(answer), int)

    def test_a_row_and_a_slot_alone(self):
        rows = [[0, 1, None], [], [4, 2]]
        self.leads(rows, (0, 0), 0)
        self.leads(rows, (0, 1), 1)
        self.leads(rows, (2, 0), 4)
        self.leads(rows, (2, 1), 2)

    def test_fields_in_their_order(self):
        rows = [[None, 0], [4]]
        self.leads(rows, (0, 1, 0), 1)
        self.leads(rows, (0, 1, 0, 0), 2)
        self.leads(rows, (0, 1, 0, 1), 0)
        self.leads(rows, (1, 0, 1), 1)
        self.leads(rows, (1, 0, 1, 0), 2)

    def test_round_and_round(self):
        self.leads([[4]], (0, 0) + (0,) * 500, 4)
        self.leads([[0]], (0, 0) + (0, 1) * 300, 0)
        self.leads([[0]], (0, 0) + (0, 1) * 300 + (0,), 1)

    def test_none_in_the_slot(self):
        for way in ((0, 1), (0, 1, 0), (0, 1, 0, 0), (0, 1, 5)):
            self.leads([[0, None]], way, None)

    def test_no_cell_at_the_slots_place(self):
        for place in (3, 5, 9, 10 ** 6):
            for way in ((0, 0), (0, 0, 0), (0, 0, 0, 0), (0, 0, 7)):
                self.leads([[place]], way, None)

    def test_none_in_a_field(self):
        for way in ((0, 0, 1), (0, 0, 1, 0), (0, 0, 1, 0, 0), (0, 0, 0, 1, 1), (0, 0, 0, 1, 1, 0)):
            self.leads([[0]], way, None)

    def test_no_cell_at_a_fields_place(self):
        for way in ((0, 0, 2), (0, 0, 2, 0), (0, 0, 2, 0, 0), (0, 0, 0, 1, 2), (0, 0, 0, 1, 2, 1)):
            self.leads([[0]], way, None)

    def test_a_field_that_the_cell_does_not_have(self):
        for way in ((0, 0, 3), (0, 0, 3, 0), (0, 0, 999), (0, 0, 0, 2), (0, 0, 0, 2, 0), (0, 0, 0, 0, 0)):
            self.leads([[0]], way, None)
        self.leads([[2]], (0, 0), 2)
        self.leads([[2]], (0, 0, 0), None)

    def test_no_field_is_counted_from_the_end(self):
        for way in ((0, 0, -1), (0, 0, -2), (0, 0, 0, -1), (0, 0, -2, 0)):
            self.leads([[1]], way, None)

    def test_a_cell_given_back_and_its_place_taken_again(self):
        rows = [[0]]
        self.leads(rows, (0, 0, 0, 0), 2)
        self.heap.back(2)
        self.leads(rows, (0, 0, 0, 0), None)
        self.leads(rows, (0, 0, 0), 1)
        self.heap.make(0)
        self.leads(rows, (0, 0, 0, 0), 2)
        self.heap.back(0)
        for way in ((0, 0), (0, 0, 0), (0, 0, 0, 0)):
            self.leads(rows, way, None)

    def test_what_stands_there_now(self):
        rows = [[0]]
        self.heap.cells[0].fields[1] = 4
        self.leads(rows, (0, 0, 1), 4)
        self.heap.cells[0].fields.append(2)
        self.leads(rows, (0, 0, 3), 2)
        rows[0][0] = 1
        self.leads(rows, (0, 0, 1), 0)

    def test_nothing_is_changed(self):
        before = whole_heap(self.heap)
        rows = [[0, None], [3]]
        follow(self.heap, rows, (0, 0, 0, 0))
        follow(self.heap, rows, (0, 1, 0))
        follow(self.heap, rows, (1, 0, 0))
        self.assertEqual(whole_heap(self.heap), before)
        self.assertEqual(rows, [[0, None], [3]])


class Reached(Ways):
    def test_nothing_held(self):
        heap = heap_of([[1], [0]])
        for rows in ([], [[]], [[], []], [[None]], [[None, None], [], [None]]):
            self.reaches(heap, rows, [])
        self.reaches(Heap(4), [[None]], [])
        self.reaches(Heap(4), [], [])

    def test_row_by_row_and_slot_by_slot(self):
        heap = heap_of([[], [], [], []])
        self.reaches(heap, [[3, 1], [], [None, 0]], [(3, (0, 0)), (1, (0, 1)), (0, (2, 1))])
        self.reaches(heap, [[None, 2]], [(2, (0, 1))])

    def test_all_that_is_held_stands_ahead_of_fields(self):
        heap = heap_of([[1, 2], [], [3], [], []])
        self.reaches(
            heap,
            [[0], [4]],
            [(0, (0, 0)), (4, (1, 0)), (1, (0, 0, 0)), (2, (0, 0, 1)), (3, (0, 0, 1, 0))],
        )

    def test_near_ones_stand_ahead_of_far_ones(self):
        # A walk that goes deep at first would come to 3 ahead of 2.
        heap = heap_of([[1, 2], [3, None], [3], []])
        self.reaches(heap, [[0]], [(0, (0, 0)), (1, (0, 0, 0)), (2, (0, 0, 1)), (3, (0, 0, 0, 0))])

    def test_the_shorter_way_though_it_begins_later(self):
        heap = heap_of([[1], [2], []])
        self.reaches(heap, [[0], [2]], [(0, (0, 0)), (2, (1, 0)), (1, (0, 0, 0))])

    def test_of_two_ways_of_one_length_the_first(self):
        heap = heap_of([[2, 2], [2], []])
        self.reaches(heap, [[1, 0]], [(1, (0, 0)), (0, (0, 1)), (2, (0, 0, 0))])
        self.reaches(heap, [[0, 1]], [(0, (0, 0)), (1, (0, 1)), (2, (0, 0, 0))])

    def test_one_place_held_many_times(self):
        heap = heap_of([[1, 1, 0, 1], [0, 0, 1]])
        self.reaches(heap, [[0, 0, None], [0], [0, 0]], [(0, (0, 0)), (1, (0, 0, 0))])
        self.reaches(heap, [[None, 1], [1, 0]], [(1, (0, 1)), (0, (1, 1))])

    def test_circles(self):
        self.reaches(heap_of([[0]]), [[0]], [(0, (0, 0))])
        self.reaches(heap_of([[1], [0]]), [[1]], [(1, (0, 0)), (0, (0, 0, 0))])
        ring = heap_of([[1], [2], [3], [0]])
        self.reaches(ring, [[2]], [(2, (0, 0)), (3, (0, 0, 0)), (0, (0, 0, 0, 0)), (1, (0, 0, 0, 0, 0))])

    def test_places_where_no_cell_is(self):
        heap = heap_of([[1, 2, None], None, [3, 1], []])
        self.reaches(heap, [[1, None, 0, 7]], [(0, (0, 2)), (2, (0, 2, 1)), (3, (0, 2, 1, 0))])
        self.reaches(heap, [[1], [4, 10 ** 6]], [])

    def test_a_field_keeps_its_number_behind_none_and_empty_places(self):
        heap = heap_of([[None, 1, None, 2], None, []])
        self.reaches(heap, [[None, None, 0]], [(0, (0, 2)), (2, (0, 2, 3))])

    def test_cells_that_are_not_come_to_are_not_listed(self):
        heap = heap_of([[], [0, 2], [1]])
        self.reaches(heap, [[0]], [(0, (0, 0))])

    def test_place_nought_is_a_place(self):
        heap = heap_of([[], [0]])
        self.reaches(heap, [[0]], [(0, (0, 0))])
        self.reaches(heap, [[1]], [(1, (0, 0)), (0, (0, 0, 0))])

    def test_a_long_chain(self):
        many = 700
        heap = heap_of([[place + 1] for place in range(many - 1)] + [[0]])
        answer = reached(heap, [[0]])
        self.assertEqual([place for place, way in answer], list(range(many)))
        self.assertEqual([way for place, way in answer], [(0, 0) + (0,) * steps for steps in range(many)])

    def test_every_small_heap(self):
        rows_tried = ([[2], [0]], [[None, 1], [], [1, 0]], [[3, 2]])
        held = (None, 0, 1, 2, 3)
        for one, two, three, four in itertools.product(held, repeat=4):
            fields = [[one, two], [three], [four, 0], None]
            heap = heap_of(fields)
            for rows in rows_tried:
                self.assertEqual(reached(heap, rows), least_ways(fields, rows), (fields, rows))

    def test_more_small_heaps(self):
        for one, two, three, four in itertools.product((None, 0, 2, 3), repeat=4):
            fields = [[1, one], [two, 3], [three], [four], []]
            rows = [[None], [0, 4], [4]]
            self.reaches(heap_of(fields), rows, least_ways(fields, rows))

    def test_what_stands_there_now(self):
        heap = heap_of([[None], [None], []])
        rows = [[0]]
        self.reaches(heap, rows, [(0, (0, 0))])
        heap.cells[0].fields[0] = 1
        self.reaches(heap, rows, [(0, (0, 0)), (1, (0, 0, 0))])
        rows.append([2])
        self.reaches(heap, rows, [(0, (0, 0)), (2, (1, 0)), (1, (0, 0, 0))])
        heap.back(1)
        self.reaches(heap, rows, [(0, (0, 0)), (2, (1, 0))])

    def test_nothing_is_changed(self):
        heap = heap_of([[1, None, 2], [0], None])
        before = whole_heap(heap)
        rows = [[None, 0], [], [2, 1]]
        reached(heap, rows)
        self.assertEqual(whole_heap(heap), before)
        self.assertEqual(rows, [[None, 0], [], [2, 1]])

    def test_the_list_is_the_askers_own(self):
        heap = heap_of([[1], []])
        rows = [[0]]
        mine = reached(heap, rows)
        kept = list(mine)
        heap.cells[0].fields[0] = None
        heap.make(0)
        rows[0].append(2)
        other = reached(heap, rows)
        self.assertEqual(mine, kept)
        other.clear()
        self.assertEqual(reached(heap, rows), [(0, (0, 0)), (2, (0, 1))])


class Outside(Ways):
    def lies_outside(self, heap, rows, expected):
        answer = outside(heap, rows)
        self.assertEqual(answer, expected)
        self.assertIs(type(answer), list)

    def test_nothing_held(self):
        heap = heap_of([[1], None, [0], []])
        for rows in ([], [[]], [[None]], [[None], [1]]):
            self.lies_outside(heap, rows, [0, 2, 3])

    def test_a_heap_without_cells(self):
        self.lies_outside(Heap(4), [[None, 0]], [])
        self.lies_outside(heap_of([None, None]), [[0, 1]], [])

    def test_all_are_come_to(self):
        self.lies_outside(heap_of([[1], [2], []]), [[0]], [])
        self.lies_outside(heap_of([[], [], []]), [[2, 0], [1]], [])

    def test_places_rise(self):
        heap = heap_of([[5], [], [], [], [2], [0]])
        self.lies_outside(heap, [[1]], [0, 2, 3, 4, 5])
        self.lies_outside(heap, [[4, 3]], [0, 1, 5])
        self.lies_outside(heap, [[None], [5, 3]], [1, 2, 4])

    def test_a_circle_that_nobody_holds(self):
        self.lies_outside(heap_of([[1, 2], [0], []]), [[2]], [0, 1])

    def test_places_where_no_cell_is(self):
        self.lies_outside(heap_of([[1], None, [1], None]), [[1, 3, 9]], [0, 2])

    def test_with_reached_it_tells_each_cell_once(self):
        for one, two, three in itertools.product((None, 0, 1, 2, 3), repeat=3):
            heap = heap_of([[one], None, [two, three], []])
            for rows in ([[0]], [[2]], [[None, 3]], [[1], [3, 0]]):
                inside = [place for place, way in reached(heap, rows)]
                answer = outside(heap, rows)
                self.assertEqual(answer, [place for place in (0, 2, 3) if place not in inside])

    def test_nothing_is_changed_and_the_list_is_the_askers_own(self):
        heap = heap_of([[1], [], [0]])
        before = whole_heap(heap)
        rows = [[1, None]]
        mine = outside(heap, rows)
        self.assertEqual((whole_heap(heap), rows), (before, [[1, None]]))
        heap.make(0)
        heap.back(0)
        rows[0][0] = 2
        self.assertEqual(mine, [0, 2])
        outside(heap, rows).clear()
        self.assertEqual(outside(heap, rows), [1, 3])


if __name__ == "__main__":
    unittest.main()

"""Cells, and the heap that keeps them by place."""

from greywalk.errors import Full


class Cell:
    def __init__(self, birth, many, bulk, tone):
        self.birth = birth
        self.bulk = bulk
        self.tone = tone
        self.load = 0
        self.fields = [None] * many

    def units(self):
        return 1 + len(self.fields) + self.bulk

    def has_field(self, field):
        # A number below nought would be counted from the list's end.
        return 0 <= field < len(self.fields)


class Heap:
    def __init__(self, room):
        self.room = room
        self.cells = []
        self.used = 0
        self.born = 0

    def make(self, many, bulk=0, tone=0):
        cell = Cell(self.born + 1, many, bulk, tone)
        if cell.units() > self.free():
            raise Full("the room does not suffice")
        self.born = cell.birth
        self.used = self.used + cell.units()
        return self.lay(cell)

    def lay(self, cell):
        # The free places are sought anew each time, since the list may be changed from outside.
        if None not in self.cells:
            self.cells.append(cell)
            return len(self.cells) - 1
        place = self.cells.index(None)
        self.cells[place] = cell
        return place

    def back(self, place):
        cell = self.cells[place]
        self.used = self.used - cell.units()
        self.cells[place] = None
        return cell.birth

    def free(self):
        return self.room - self.used

    def there(self):
        return [place for place in range(len(self.cells)) if self.cells[place] is not None]


def cell_at(heap, place):
    # A place below nought would be counted from the list's end.
    if place is None or place < 0 or place >= len(heap.cells):
        return None
    return heap.cells[place]


def birth_at(heap, place):
    cell = cell_at(heap, place)
    if cell is None:
        return None
    return cell.birth

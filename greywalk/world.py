"""The world: a heap, hands, weak names, and what the sweeper knows of its round."""

from greywalk.cells import Heap, birth_at, cell_at


class Hand:
    def __init__(self, name, many):
        self.name = name
        self.slots = [None] * many


class Sweeper:
    def __init__(self):
        self.sense = 0
        self.phase = "rest"
        self.grey = []
        self.looked = 0
        self.turn = 0
        self.at = 0
        self.stop = 0
        self.walks = 0
        self.looks = 0
        self.passes = 0
        self.loss = None


class World:
    def __init__(self, room, kind, hands):
        self.heap = Heap(room)
        self.kind = kind
        self.hands = [Hand(name, many) for name, many in hands]
        self.names = {}
        self.sweeper = Sweeper()


def held(world):
    return [list(hand.slots) for hand in world.hands]


def births_held(world):
    return [births_at(world.heap, hand.slots) for hand in world.hands]


def births_at(heap, places):
    return [birth_at(heap, place) for place in places]


def looked_at(world, hand):
    return (world.sweeper.looked >> hand) & 1 == 1


def has_sense(world, cell):
    return cell.tone == world.sweeper.sense


def is_walking(world):
    # A lost world's cells and names are told as its walk left them.
    return world.sweeper.phase in ("walk", "lost")


def mark_of(world, place):
    sweeper = world.sweeper
    toned = has_sense(world, world.heap.cells[place])
    if sweeper.phase == "rest":
        return "kept"
    if sweeper.phase == "give":
        return "kept" if toned else "doomed"
    if not toned:
        return "pale"
    return "grey" if place in sweeper.grey else "dark"


def told_cells(world):
    return [told_cell(world, place) for place in world.heap.there()]


def told_cell(world, place):
    cell = world.heap.cells[place]
    fields = births_at(world.heap, cell.fields)
    return (place, cell.birth, cell.bulk, cell.load, fields, mark_of(world, place))


def begin(world):
    sweeper = world.sweeper
    sweeper.sense = 1 - sweeper.sense
    sweeper.turn = sweeper.turn + 1
    sweeper.phase = "walk"
    sweeper.grey = []
    sweeper.looked = world.kind.looking.at_begin(len(world.hands))
    sweeper.walks = 0
    sweeper.looks = 0
    sweeper.passes = 0


def note(world, place):
    sweeper = world.sweeper
    cell = cell_at(world.heap, place)
    if sweeper.phase != "walk" or cell is None or has_sense(world, cell):
        return None
    cell.tone = sweeper.sense
    sweeper.grey.append(place)
    return cell.birth


def note_all(world, places):
    births = []
    for place in places:
        birth = note(world, place)
        if birth is not None:
            births.append(birth)
    return births


def gone(world, place, birth):
    cell = cell_at(world.heap, place)
    if cell is None or cell.birth != birth:
        return True
    return world.sweeper.phase == "give" and not has_sense(world, cell)


def roots(world):
    return held(world) + [[root_of(world, place, birth) for place, birth in world.names.values()]]


def root_of(world, place, birth):
    if gone(world, place, birth):
        return None
    # A walk does not go by weak names: a cell that it has not come to is not kept by one.
    if is_walking(world) and not has_sense(world, world.heap.cells[place]):
        return None
    return place

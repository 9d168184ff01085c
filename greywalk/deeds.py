"""The deeds of hands, each a tuple of a word, a hand and what else it needs."""

from greywalk.cells import birth_at, cell_at
from greywalk.errors import EmptySlot, NoField, NoName
from greywalk.kinds import NEW, OLD
from greywalk.world import gone, looked_at, note_all


def slots_of(world, hand):
    return world.hands[hand].slots


def cell_in(world, hand, slot):
    cell = cell_at(world.heap, slots_of(world, hand)[slot])
    if cell is None:
        raise EmptySlot("the slot holds no cell")
    return cell


def fields_in(world, hand, slot, field):
    cell = cell_in(world, hand, slot)
    if not cell.has_field(field):
        raise NoField("the cell does not have the field")
    return cell.fields


def told_as_old(world, place):
    if world.kind.tells & OLD == 0:
        return []
    return [place]


def told_as_new(world, hand, place):
    # The look at a hand notes all that it holds, so what it puts in then need not be told again.
    if world.kind.tells & NEW == 0 or looked_at(world, hand):
        return []
    return [place]


def do_make(world, deed):
    slots = slots_of(world, deed[1])
    many = deed[3]
    bulk = deed[4]
    place = world.heap.make(many, bulk, world.sweeper.sense)
    slots[deed[2]] = place
    return ("made", birth_at(world.heap, place), [])


def do_get(world, deed):
    hand = deed[1]
    source = deed[3]
    field = deed[4]
    place = fields_in(world, hand, source, field)[field]
    slots_of(world, hand)[deed[2]] = place
    return ("got", birth_at(world.heap, place), [])


def do_put(world, deed):
    hand = deed[1]
    field = deed[3]
    fields = fields_in(world, hand, deed[2], field)
    old = fields[field]
    new = slots_of(world, hand)[deed[4]]
    fields[field] = new
    noted = note_all(world, told_as_old(world, old) + told_as_new(world, hand, new))
    return ("put", birth_at(world.heap, old), noted)


def do_copy(world, deed):
    slots = slots_of(world, deed[1])
    place = slots[deed[3]]
    slots[deed[2]] = place
    return ("copied", birth_at(world.heap, place), [])


def do_drop(world, deed):
    slots = slots_of(world, deed[1])
    place = slots[deed[2]]
    slots[deed[2]] = None
    return ("dropped", birth_at(world.heap, place), [])


def do_give(world, deed):
    giver = deed[1]
    taker = deed[3]
    place = slots_of(world, giver)[deed[2]]
    slots_of(world, taker)[deed[4]] = place
    noted = note_all(world, told_as_new(world, giver, place))
    return ("given", birth_at(world.heap, place), noted)


def do_write(world, deed):
    cell = cell_in(world, deed[1], deed[2])
    before = cell.load
    cell.load = deed[3]
    return ("wrote", before, [])


def do_read(world, deed):
    cell = cell_in(world, deed[1], deed[2])
    return ("read", cell.load, [])


def do_name(world, deed):
    hand = deed[1]
    slot = deed[2]
    birth = cell_in(world, hand, slot).birth
    world.names[deed[3]] = (slots_of(world, hand)[slot], birth)
    return ("named", birth, [])


def do_seek(world, deed):
    place = place_named(world, deed[3])
    slots_of(world, deed[1])[deed[2]] = place
    # No walk goes by a weak name, so the sweeper must hear of what was found in every kind.
    noted = note_all(world, [place])
    return ("sought", birth_at(world.heap, place), noted)


def place_named(world, word):
    if word not in world.names:
        raise NoName("the weak name was never given")
    place = world.names[word][0]
    birth = world.names[word][1]
    if gone(world, place, birth):
        return None
    return place


DEEDS = {
    "make": do_make,
    "get": do_get,
    "put": do_put,
    "copy": do_copy,
    "drop": do_drop,
    "give": do_give,
    "write": do_write,
    "read": do_read,
    "name": do_name,
    "seek": do_seek,
}


def do(world, deed):
    act = DEEDS[deed[0]]
    return act(world, deed)

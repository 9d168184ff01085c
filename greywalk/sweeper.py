"""The sweeper's steps, from the begin of a round to its end, or to a loss."""

from greywalk.cells import cell_at
from greywalk.ways import reached
from greywalk.world import begin, births_at, has_sense, note_all, roots


def note_hands(world, hands):
    noted = []
    for number, hand in enumerate(world.hands):
        if (hands >> number) & 1 == 1:
            noted.extend(note_all(world, hand.slots))
    return noted


def step_at_rest(world):
    begin(world)
    noted = note_hands(world, world.sweeper.looked)
    return ("begin", world.sweeper.turn, noted)


def step_in_walk(world):
    if world.sweeper.grey:
        return walk(world)
    return look_or_cut(world)


def walk(world):
    sweeper = world.sweeper
    cell = world.heap.cells[sweeper.grey.pop(0)]
    sweeper.walks = sweeper.walks + 1
    return ("walk", cell.birth, note_all(world, cell.fields))


def look_or_cut(world):
    sweeper = world.sweeper
    looking = world.kind.looking
    hands = looking.next_look(sweeper.looked, len(world.hands))
    noted = note_hands(world, hands)
    # A looking that does not stay could look for ever; it is over when a look finds nothing.
    if hands == 0 or not (looking.stays() or noted):
        return cut(world)
    sweeper.looks = sweeper.looks + 1
    if looking.stays():
        sweeper.looked = sweeper.looked | hands
    return ("look", hands, noted)


def cut(world):
    sweeper = world.sweeper
    sweeper.stop = len(world.heap.cells)
    sweeper.at = 0
    loss = first_loss(world)
    if loss is not None:
        sweeper.phase = "lost"
        sweeper.loss = loss
        return told_again(loss)
    sweeper.phase = "give"
    births = births_at(world.heap, given_up(world))
    return ("cut", len(births), births)


def first_loss(world):
    for place, way in reached(world.heap, roots(world)):
        cell = world.heap.cells[place]
        if not has_sense(world, cell):
            return ("lost", cell.birth, list(way))
    return None


def given_up(world):
    heap = world.heap
    return [place for place in heap.there() if not has_sense(world, heap.cells[place])]


def told_again(event):
    # The asker may change the list, and the loss is still to be told as it was.
    return (event[0], event[1], list(event[2]))


def step_in_give(world):
    if world.sweeper.at < world.sweeper.stop:
        return pass_place(world)
    return end(world)


def pass_place(world):
    sweeper = world.sweeper
    place = sweeper.at
    sweeper.at = place + 1
    sweeper.passes = sweeper.passes + 1
    cell = cell_at(world.heap, place)
    if cell is None or has_sense(world, cell):
        return ("pass", place, [])
    return ("back", world.heap.back(place), [place])


def end(world):
    sweeper = world.sweeper
    sweeper.phase = "rest"
    return ("end", sweeper.turn, [sweeper.walks, sweeper.looks, sweeper.passes])


def step_when_lost(world):
    return told_again(world.sweeper.loss)


STEPS = {
    "rest": step_at_rest,
    "walk": step_in_walk,
    "give": step_in_give,
    "lost": step_when_lost,
}


def step(world):
    act = STEPS[world.sweeper.phase]
    return act(world)


def to_rest(world):
    steps = 0
    while world.sweeper.phase not in ("rest", "lost"):
        step(world)
        steps = steps + 1
    return steps

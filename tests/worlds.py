"""What the tests need in common."""

from greywalk.cells import Heap
from greywalk.deeds import do
from greywalk.kinds import Each, First, Kind, Last, kind_of
from greywalk.sweeper import step
from greywalk.world import World, begin

PHASES = ("rest", "walk", "give", "lost")
EVERY_WORDS = [
    looking + telling for looking in ("first", "each", "last") for telling in ("", " old", " new", " old new")
]
SOUND_WORDS = ["first old", "first old new", "each old new", "last new", "last old new"]
FIVE_HANDS = (("ann", 3), ("bob", 4), ("cid", 5), ("dot", 6), ("eve", 9))


def lookings():
    return [First(), Each(), Last()]


def every_kind():
    return [Kind(looking, tells) for looking in lookings() for tells in range(4)]


def new_world(words="first old", room=1000, hands=(("ann", 4), ("bob", 3))):
    return World(room, kind_of(words), list(hands))


def world_in(phase, words="first old", room=1000, hands=(("ann", 4), ("bob", 3))):
    """A new world in a phase, without cells. In every phase but rest a round has begun, so the sense is 1."""
    world = new_world(words, room, hands)
    if phase != "rest":
        begin(world)
        world.sweeper.phase = phase
    return world


def do_all(world, deeds):
    """The events of deeds, one behind the other."""
    return [do(world, deed) for deed in deeds]


def steps(world, many):
    """The events of so many steps."""
    return [step(world) for number in range(many)]


def round_of(world):
    """The events of steps, up to the end of a round or to a loss."""
    events = [step(world)]
    while events[-1][0] not in ("end", "lost"):
        events.append(step(world))
    return events


def toned(world, tone, many=2, bulk=0):
    """The place of a new cell that has the sense where the tone is "dark", and not where it is "pale"."""
    sense = world.sweeper.sense
    return world.heap.make(many, bulk, sense if tone == "dark" else 1 - sense)


def heap_of(fields):
    """A heap with a cell for each list of fields, and no cell where None stands in a list's stead."""
    heap = Heap(10 ** 6)
    for inner in fields:
        place = heap.make(0 if inner is None else len(inner))
        if inner is not None:
            heap.cells[place].fields[:] = inner
    for place, inner in enumerate(fields):
        if inner is None:
            heap.back(place)
    return heap


def whole_heap(heap):
    """All that stands in a heap, the cells themselves among it."""
    inner = [
        None if cell is None else (cell, cell.birth, cell.bulk, cell.load, cell.tone, list(cell.fields))
        for cell in heap.cells
    ]
    return (heap.room, heap.used, heap.born, inner)


def plain(world):
    """All that stands in a world, as plain values that nothing done later changes."""
    heap = world.heap
    cells = [
        None if cell is None else (cell.birth, cell.bulk, cell.load, cell.tone, list(cell.fields))
        for cell in heap.cells
    ]
    sweeper = dict(vars(world.sweeper))
    sweeper["grey"] = list(sweeper["grey"])
    return (
        (heap.room, heap.used, heap.born, cells),
        (world.kind.looking.word(), world.kind.tells),
        [(hand.name, list(hand.slots)) for hand in world.hands],
        list(world.names.items()),
        sweeper,
    )


def all_of(scene):
    """All that stands in a scene, in lists that nothing done to the scene later changes."""
    return (scene.room, scene.kind.words(), list(scene.hands), list(scene.rows))


def whole(world):
    """What plain tells, and behind it the objects themselves."""
    objects = [world.heap, world.kind, world.kind.looking, world.sweeper] + world.heap.cells + world.hands
    return plain(world) + (objects,)

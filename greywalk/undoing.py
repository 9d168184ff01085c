"""How a weave of a kind that is not sound is carried on to a loss."""

from greywalk.errors import Sound
from greywalk.kinds import OLD
from greywalk.runs import tells_loss, tried
from greywalk.scenes import SWEEP, world_of
from greywalk.sweeper import step, to_rest
from greywalk.world import births_held


def undoing(scene):
    if scene.kind.sound():
        raise Sound("no weave of a sound kind leads to a loss")
    world = world_behind(scene)
    rows = rows_to_rest(world)
    if world.sweeper.phase == "lost":
        return rows
    rows.extend(rows_to_empty(world))
    rows.extend(rows_to_loss(scene.kind, len(scene.hands)))
    return rows


def world_behind(scene):
    world = world_of(scene)
    for row in scene.rows:
        if tells_loss(tried(world, row)):
            break
    return world


def rows_to_rest(world):
    # In a world that is lost there are no steps to do, and so there is no row.
    many = to_rest(world)
    return [(SWEEP, many)] if many > 0 else []


def rows_to_empty(world):
    drops = drops_of(world)
    for drop in drops:
        tried(world, drop)
    step(world)
    return drops + [(SWEEP, 1 + to_rest(world))]


def drops_of(world):
    drops = []
    for hand, births in enumerate(births_held(world)):
        drops.extend([("drop", hand, slot) for slot, birth in enumerate(births) if birth is not None])
    return drops


def rows_to_loss(kind, hands):
    looking = kind.looking.word()
    if kind.tells & OLD == 0 and looking != "last":
        return rows_untold_as_old(looking, hands)
    return rows_untold_as_new(looking, hands)


def rows_untold_as_old(looking, hands):
    # The sweeper has looked at hand 0, when this takes a cell out of the one place where a walk would find it.
    return [
        ("make", 0, 0, 1, 0),
        ("make", 0, 1, 0, 0),
        ("put", 0, 0, 0, 1),
        ("drop", 0, 1),
        (SWEEP, 2 if looking == "each" else 1),
        ("get", 0, 1, 0, 0),
        ("put", 0, 0, 0, 2),
        (SWEEP, hands + 1 if looking == "each" else 2),
    ]


def rows_untold_as_new(looking, hands):
    # The sweeper has not yet looked at hand 0, when this lays a cell into a new one, which no walk comes to.
    return [
        ("make", 0, 1, 0, 0),
        (SWEEP, 1),
        ("make", 0, 0, 1, 0),
        ("put", 0, 0, 0, 1),
        ("drop", 0, 1),
        (SWEEP, hands + 1 if looking == "each" else 1),
    ]

"""Weaves run row by row, and the logs of what was answered."""

from greywalk.deeds import do
from greywalk.errors import EmptySlot, Full, NoField, NoName
from greywalk.reading import read
from greywalk.report import report
from greywalk.scenes import SWEEP, world_of
from greywalk.sweeper import step


def tried(world, row):
    if row[0] == SWEEP:
        return swept(world, row[1])
    return [tried_deed(world, row)]


def swept(world, many):
    events = []
    while len(events) < many and not tells_loss(events):
        events.append(step(world))
    return events


def tells_loss(events):
    return len(events) > 0 and events[-1][0] == "lost"


def tried_deed(world, deed):
    try:
        return do(world, deed)
    except EmptySlot:
        return refused("empty")
    except NoField:
        return refused("field")
    except Full:
        return refused("full")
    except NoName:
        return refused("name")


def refused(word):
    return ("refused", word, [])


def run(scene, most=None):
    world = world_of(scene)
    log = []
    # Cut off at None, a list is left whole.
    for row in scene.rows[:most]:
        log.append(tried(world, row))
        if is_lost(log):
            break
    return log


def is_lost(log):
    return len(log) > 0 and tells_loss(log[-1])


def tell(text):
    return report(run(read(text)))

"""Scenes: what a world is made of, and the rows that are to be done in it."""

from greywalk.world import World

SWEEP = "sweep"


class Scene:
    def __init__(self, room, kind, hands, rows):
        self.room = room
        self.kind = kind
        # Lists of its own, so that nothing done later to those handed in, or to another scene's, changes this one.
        self.hands = list(hands)
        self.rows = list(rows)


def world_of(scene):
    return World(scene.room, scene.kind, scene.hands)


def with_rows(scene, more):
    return Scene(scene.room, scene.kind, scene.hands, scene.rows + more)


def quiet(scene):
    rows = [row for row in scene.rows if row[0] != SWEEP]
    return Scene(scene.room, scene.kind, scene.hands, rows)

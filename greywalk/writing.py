"""Scenes written as texts."""

from greywalk.forms import forms_of
from greywalk.scenes import SWEEP


def written(scene):
    names = [name for name, many in scene.hands]
    room = scene.room
    words = scene.kind.words()
    rows = [f"room {room}", f"kind {words}"]
    rows.extend([f"hand {name} {many}" for name, many in scene.hands])
    rows.append("weave")
    rows.extend([written_row(row, names) for row in scene.rows])
    return "\n".join(rows)


def written_row(row, names):
    word = row[0]
    if word == SWEEP:
        return " ".join([word, str(row[1])])
    parts = [written_part(form, value, names) for form, value in zip(forms_of(word), row[1:])]
    # In a row the hand stands ahead of the deed's word, in a deed behind it.
    return " ".join(parts[:1] + [word] + parts[1:])


def written_part(form, value, names):
    return names[value] if form == "hand" else str(value)

"""Scenes read from texts."""

from greywalk.errors import BadRow, NoHand, NoSlot, Twice
from greywalk.figures import is_word, load_of, number_of
from greywalk.forms import forms_of
from greywalk.kinds import kind_of
from greywalk.scenes import SWEEP, Scene

LEAST_ROOM = 4
MOST_ROOM = 1_000_000_000_000_000
LEAST_SLOTS = 3
MOST_SLOTS = 9
MOST_HANDS = 5
MOST_ROWS = 400
LEAST_STEPS = 1
MOST_STEPS = 9999

# The greatest number of each form that is written as a number from nought on.
MOST = {
    "slot": 999,
    "field": 999,
    "many": 8,
    "bulk": 1_000_000_000_000,
}

# The rows ahead of the hands' are two, and rows are counted from 1.
FIRST_HAND = 3


def read(text):
    rows = text.split("\n")
    room = well_formed(room_in(row_at(rows, 1)), 1)
    kind = well_formed(kind_in(row_at(rows, 2)), 2)
    hands = hands_of(rows)
    first = FIRST_HAND + len(hands) + 1
    return Scene(room, kind, hands, weave_of(rows, first, hands))


def row_at(rows, number):
    if number > len(rows):
        raise BadRow(number)
    return rows[number - 1]


def well_formed(found, number):
    if found is None:
        raise BadRow(number)
    return found


def number_between(text, least, most):
    number = number_of(text, most)
    if number is None or number < least:
        return None
    return number


def room_in(row):
    parts = row.split(" ")
    if len(parts) != 2 or parts[0] != "room":
        return None
    return number_between(parts[1], LEAST_ROOM, MOST_ROOM)


def kind_in(row):
    parts = row.split(" ")
    if parts[0] != "kind":
        return None
    return kind_of(" ".join(parts[1:]))


def hands_of(rows):
    hands = [hand_of(rows, FIRST_HAND, [])]
    number = FIRST_HAND + 1
    while row_at(rows, number) != "weave":
        if len(hands) == MOST_HANDS:
            raise BadRow(number)
        hands.append(hand_of(rows, number, hands))
        number = number + 1
    return hands


def hand_of(rows, number, earlier):
    hand = well_formed(hand_in(row_at(rows, number)), number)
    if hand[0] in names_of(earlier):
        raise Twice(number)
    return hand


def names_of(hands):
    return [name for name, many in hands]


def hand_in(row):
    parts = row.split(" ")
    if len(parts) != 3 or parts[0] != "hand" or not is_hand_name(parts[1]):
        return None
    many = number_between(parts[2], LEAST_SLOTS, MOST_SLOTS)
    if many is None:
        return None
    return (parts[1], many)


def is_hand_name(text):
    return is_word(text) and text != SWEEP


def weave_of(rows, first, hands):
    weave = []
    for number in range(first, len(rows) + 1):
        if len(weave) == MOST_ROWS:
            raise BadRow(number)
        weave.append(weave_row(rows[number - 1].split(" "), number, hands))
    return weave


def weave_row(parts, number, hands):
    if parts[0] == SWEEP:
        return well_formed(sweep_in(parts), number)
    told = well_formed(told_in(parts), number)
    forms = forms_of(parts[1])
    values = with_hands(forms, told, number, hands)
    look_at_slots(forms, values, number, hands)
    return tuple([parts[1]] + values)


def sweep_in(parts):
    if len(parts) != 2:
        return None
    steps = number_between(parts[1], LEAST_STEPS, MOST_STEPS)
    if steps is None:
        return None
    return (SWEEP, steps)


def told_in(parts):
    forms = forms_of(parts[1]) if len(parts) > 1 else None
    # In a row the hand stands ahead of the deed's word, in a deed behind it.
    texts = parts[:1] + parts[2:]
    if forms is None or len(texts) != len(forms):
        return None
    told = [value_of(form, text) for form, text in zip(forms, texts)]
    if None in told:
        return None
    return told


def value_of(form, text):
    if form in MOST:
        return number_of(text, MOST[form])
    if form == "load":
        return load_of(text)
    return text if is_word(text) else None


def with_hands(forms, told, number, hands):
    names = names_of(hands)
    values = []
    for form, value in zip(forms, told):
        if form == "hand" and value not in names:
            raise NoHand(number)
        values.append(names.index(value) if form == "hand" else value)
    return values


def look_at_slots(forms, values, number, hands):
    owner = 0
    for form, value in zip(forms, values):
        if form == "hand":
            owner = value
        if form == "slot" and value >= hands[owner][1]:
            raise NoSlot(number)

"""Events and logs, written as texts and read back."""

from greywalk.errors import BadRow
from greywalk.figures import load_of, number_of

REFUSED = "refused"
REFUSALS = ("empty", "field", "full", "name")
WORDS = (
    "made", "got", "put", "copied", "dropped", "given", "wrote", "read", "named", "sought",
    "begin", "walk", "look", "cut", "lost", "back", "pass", "end",
)
NOTHING = "-"


def event_row(event):
    thing = NOTHING if event[1] is None else str(event[1])
    return " ".join([event[0], thing] + [str(number) for number in event[2]])


def event_of(text):
    parts = text.split(" ")
    if len(parts) < 2 or not has_thing(parts[0], parts[1]):
        return None
    numbers = [number_of(part) for part in parts[2:]]
    if None in numbers:
        return None
    return (parts[0], thing_of(parts[0], parts[1]), numbers)


def has_thing(word, text):
    # Asked apart from what the thing is, since None is a thing as well.
    if word == REFUSED:
        return text in REFUSALS
    return word in WORDS and (text == NOTHING or load_of(text) is not None)


def thing_of(word, text):
    # What stands for nothing is no load, and is so answered as None by itself.
    return text if word == REFUSED else load_of(text)


def report(log):
    rows = []
    for number, events in enumerate(log, start=1):
        rows.extend([f"{number} " + event_row(event) for event in events])
    return "\n".join(rows)


def heard(text):
    log = []
    # Split, the empty text would have one row; but it stands for the empty log.
    rows = text.split("\n") if text != "" else []
    for place, row in enumerate(rows, start=1):
        parts = row.partition(" ")
        number = number_of(parts[0])
        event = event_of(parts[2])
        if event is None or not goes_on(number, len(log)):
            raise BadRow(place)
        if number > len(log):
            log.append([])
        log[-1].append(event)
    return log


def goes_on(number, many):
    # As long as there is no list yet, no row can come to the last one: so nought is out.
    return number == many + 1 or (number == many and many > 0)

"""Where ways lead, and what can be come to from what is held."""

from greywalk.cells import cell_at


def follow(heap, rows, way):
    place = rows[way[0]][way[1]]
    for field in way[2:]:
        place = field_at(heap, place, field)
    if cell_at(heap, place) is None:
        return None
    return place


def field_at(heap, place, field):
    cell = cell_at(heap, place)
    if cell is None or not cell.has_field(field):
        return None
    return cell.fields[field]


def reached(heap, rows):
    queue = []
    for number, row in enumerate(rows):
        queue.extend(onward(heap, row, (number,)))
    listed = {}
    # The queue is walked by a number and never made shorter: taking off the first of a list moves all the others.
    taken = 0
    while taken < len(queue):
        place = queue[taken][0]
        way = queue[taken][1]
        taken = taken + 1
        if place not in listed:
            listed[place] = way
            queue.extend(onward(heap, heap.cells[place].fields, way))
    return list(listed.items())


def onward(heap, places, way):
    return [(place, way + (step,)) for step, place in enumerate(places) if cell_at(heap, place) is not None]


def outside(heap, rows):
    inside = dict(reached(heap, rows))
    return [place for place in heap.there() if place not in inside]

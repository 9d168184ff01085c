"""Points 2 and 35: what holds over rounds with deeds between the steps, beside a heap that gives nothing back.

The same weaves are then run as scenes, with the sweeper's rows and without them, written, read and undone.
"""

import copy
import unittest

from greywalk.cells import birth_at
from greywalk.deeds import do
from greywalk.errors import EmptySlot, Full, NoField, NoName, Sound
from greywalk.kinds import kind_of
from greywalk.reading import read
from greywalk.report import heard, report
from greywalk.runs import is_lost, run, tell
from greywalk.scenes import Scene, quiet, with_rows
from greywalk.sweeper import step
from greywalk.undoing import undoing
from greywalk.ways import follow
from greywalk.world import births_held, roots, told_cells
from greywalk.writing import written
from worlds import EVERY_WORDS, FIVE_HANDS, SOUND_WORDS, all_of, new_world, plain

WORDS = ("dear", "far", "near")
REFUSALS = {EmptySlot: "empty", NoField: "field", Full: "full", NoName: "name"}


class Dice:
    """Numbers that look thrown and are the same each time."""

    def __init__(self, seed):
        self.state = seed * 7919 + 1

    def below(self, bound):
        self.state = (self.state * 6364136223846793005 + 1442695040888963407) % 2 ** 64
        return (self.state >> 33) % bound

    def of(self, things):
        return things[self.below(len(things))]


class Endless:
    """The same deeds, by births, in a heap of endless room that never gives anything back."""

    def __init__(self, hands):
        self.fields = {}
        self.loads = {}
        self.slots = [[None] * many for name, many in hands]
        self.names = {}

    def cell(self, hand, slot):
        if self.slots[hand][slot] is None:
            raise EmptySlot
        return self.slots[hand][slot]

    def field(self, hand, slot, field):
        cell = self.cell(hand, slot)
        if field >= len(self.fields[cell]):
            raise NoField
        return self.fields[cell]

    def do(self, deed, given_up):
        """The word and the thing of a deed; those that a seek does not find are handed in."""
        word, hand = deed[:2]
        slots = self.slots[hand]
        if word == "make":
            birth = len(self.fields) + 1
            self.fields[birth] = [None] * deed[3]
            self.loads[birth] = 0
            slots[deed[2]] = birth
            return ("made", birth)
        if word == "get":
            slots[deed[2]] = self.field(hand, deed[3], deed[4])[deed[4]]
            return ("got", slots[deed[2]])
        if word == "put":
            fields = self.field(hand, deed[2], deed[3])
            before = fields[deed[3]]
            fields[deed[3]] = slots[deed[4]]
            return ("put", before)
        if word == "copy":
            slots[deed[2]] = slots[deed[3]]
            return ("copied", slots[deed[2]])
        if word == "drop":
            before = slots[deed[2]]
            slots[deed[2]] = None
            return ("dropped", before)
        if word == "give":
            self.slots[deed[3]][deed[4]] = slots[deed[2]]
            return ("given", slots[deed[2]])
        if word == "write":
            before = self.loads[self.cell(hand, deed[2])]
            self.loads[slots[deed[2]]] = deed[3]
            return ("wrote", before)
        if word == "read":
            return ("read", self.loads[self.cell(hand, deed[2])])
        if word == "name":
            self.names[deed[3]] = self.cell(hand, deed[2])
            return ("named", slots[deed[2]])
        if deed[3] not in self.names:
            raise NoName
        birth = self.names[deed[3]]
        slots[deed[2]] = None if birth in given_up else birth
        return ("sought", slots[deed[2]])

    def come_to(self, more=()):
        """The births that can be come to from the hands, and from more."""
        found = set()
        ahead = [birth for row in self.slots + [more] for birth in row if birth is not None]
        while ahead:
            birth = ahead.pop()
            if birth not in found:
                found.add(birth)
                ahead.extend(inner for inner in self.fields[birth] if inner is not None)
        return found


def slot_of(dice, slots):
    """Some slot, mostly one that holds a cell."""
    filled = [slot for slot, birth in enumerate(slots) if birth is not None]
    return dice.of(filled) if filled and dice.below(8) else dice.below(len(slots))


def field_of(dice, fields):
    """Some field, mostly one that is there, and that holds a cell."""
    filled = [field for field, birth in enumerate(fields) if birth is not None]
    if filled and dice.below(4):
        return dice.of(filled)
    return dice.below(len(fields)) if fields and dice.below(8) else dice.below(4)


def deed_of(dice, endless):
    """Some deed, made so that it is mostly not refused and that cells come to hold one another."""
    hand = dice.below(len(endless.slots))
    slots = endless.slots[hand]
    s = dice.below(3) if dice.below(4) else dice.below(len(slots))
    t = slot_of(dice, slots)
    field = field_of(dice, endless.fields.get(slots[t], []))
    word = dice.of(("make", "make", "get", "get", "get", "get", "put", "put", "put", "put", "put", "copy", "drop",
                    "give", "write", "read", "name", "seek"))
    if word == "make":
        return (word, hand, s, dice.of((0, 1, 2, 2, 3)), dice.of((0, 0, 0, 5)))
    if word == "get":
        return (word, hand, s, t, field)
    if word == "put":
        return (word, hand, t, field, dice.below(len(slots)) if dice.below(2) else slot_of(dice, slots))
    if word == "copy":
        return (word, hand, s, t)
    if word == "give":
        other = dice.below(len(endless.slots))
        return (word, hand, t, other, dice.below(len(endless.slots[other])))
    if word == "write":
        return (word, hand, t, dice.below(2000) - 1000)
    if word == "name":
        return (word, hand, t, dice.of(WORDS))
    if word == "seek":
        return (word, hand, s, dice.of(WORDS))
    return (word, hand, t)


def play_of(dice, endless):
    """Some deeds of one hand: one alone, or a few that hang a cell on another, hide it, move it or hand it over."""
    hand = dice.below(len(endless.slots))
    slots = endless.slots[hand]
    # Slot 0 is mostly left alone, so that what hangs on its cell grows; the last one is mostly empty.
    if slots[0] is None:
        return [("make", hand, 0, 3, 0)]
    t, other = slot_of(dice, slots), slot_of(dice, slots)
    s = 1 + dice.below(len(slots) - 2)
    empty = len(slots) - 1
    field = field_of(dice, endless.fields.get(slots[t], []))
    play = dice.of(("one", "one", "hang", "hang", "hang", "get", "hide", "hide", "move", "move", "over", "name", "seek",
                    "seek", "tuck", "tuck"))
    if play == "one":
        return [deed_of(dice, endless)]
    if play == "seek":
        return [("seek", hand, s, dice.of(WORDS))]
    if play == "hang":
        let_go = [("drop", hand, s)] * dice.below(2)
        return [("make", hand, s, dice.of((0, 1, 2, 3, 3)), 0), ("put", hand, t, dice.below(3), s)] + let_go
    if play == "tuck":
        return [("make", hand, s, 2, 0), ("put", hand, s, dice.below(2), t), ("drop", hand, t)]
    if play == "get":
        return [("get", hand, s, t, field)]
    if play == "hide":
        return [("get", hand, s, t, field), ("put", hand, t, field, empty)]
    if play == "move":
        return [("get", hand, s, t, field), ("put", hand, other, dice.below(3), s), ("put", hand, t, field, empty),
                ("copy", hand, s, other)]
    if play == "over":
        taker = dice.below(len(endless.slots))
        return [("give", hand, t, taker, 1 + dice.below(len(endless.slots[taker]) - 2)), ("drop", hand, s)]
    return [("name", hand, t, dice.of(WORDS)), ("drop", hand, s), ("drop", hand, empty)]


class Watch:
    """Does deeds and steps in a world beside an endless one, and holds each event against what is promised."""

    def __init__(self, case, words, hands, room):
        self.case = case
        self.words = words
        self.hands = hands
        self.world = new_world(words, room, hands)
        self.endless = Endless(hands)
        self.units = {}
        self.room = room
        self.most_there = 0
        self.given_up = set()
        self.given_back = []
        self.seen = set()
        self.events = []
        self.told = []
        # The rows that were done, and the log that a run of them must answer.
        self.rows = []
        self.log = []
        self.begin_round()

    def begin_round(self):
        self.there_at_begin = set(self.units)
        self.never_come_to = set(self.units)
        self.noted = []
        self.walked = []
        self.looks = []
        self.passes = 0
        self.doomed = None

    def keep(self, event):
        self.events.append(event)
        self.told.append(copy.deepcopy(event))
        self.seen.add(event[0])

    def deed(self, deed):
        self.rows.append(deed)
        many = len(self.told)
        refusal = self.deed_or_refusal(deed)
        self.log.append(copy.deepcopy(self.told[many:]) or [("refused", REFUSALS[refusal], [])])

    def deed_or_refusal(self, deed):
        """Does a deed; where it is refused, its refusal's class is answered."""
        case = self.case
        try:
            expected = self.expected(deed)
        except (EmptySlot, NoField, Full, NoName) as error:
            before = plain(self.world)
            with case.assertRaises(error.__class__) as taken:
                do(self.world, deed)
            case.assertIs(taken.exception.__class__, error.__class__)
            case.assertEqual(plain(self.world), before)
            self.seen.add(error.__class__)
            return error.__class__
        event = do(self.world, deed)
        self.keep(event)
        case.assertEqual(event[:2], expected)
        case.assertLessEqual(len(event[2]), 2)
        if expected == ("sought", None):
            self.seen.add("nothing found")
        if event[2]:
            self.seen.add("noted by " + event[0])
        self.noted.extend(event[2])
        self.most_there = max(self.most_there, len(self.units))
        self.look_round()
        return None

    def expected(self, deed):
        """What the endless heap answers; a make is refused where the cells not yet given back leave no room."""
        if deed[0] != "make":
            return self.endless.do(deed, self.given_up)
        units = 1 + deed[3] + deed[4]
        if units + sum(self.units.values()) > self.room:
            raise Full
        answer = self.endless.do(deed, self.given_up)
        self.units[answer[1]] = units
        return answer

    def look_round(self):
        """What must hold behind each deed and each step, as long as no loss was told."""
        reached = self.endless.come_to()
        self.never_come_to -= reached
        self.case.assertEqual(reached & self.given_up, set())
        self.case.assertEqual(births_held(self.world), self.endless.slots)
        self.case.assertEqual(self.world.heap.used, sum(self.units.values()))
        for place, birth, bulk, load, fields, mark in told_cells(self.world):
            if birth in reached:
                self.case.assertEqual((load, fields), (self.endless.loads[birth], self.endless.fields[birth]))

    def step(self):
        places = {birth_at(self.world.heap, place): place for place in self.world.heap.there()}
        event = step(self.world)
        self.keep(event)
        getattr(self, "after_" + event[0])(event, places)
        if event[0] != "lost":
            self.look_round()
        return event

    def sweep(self, many):
        """So many steps as one row, but none behind a loss."""
        self.rows.append(("sweep", many))
        self.log.append([])
        for number in range(many):
            self.log[-1].append(copy.deepcopy(self.step()))
            if self.is_lost():
                return

    def sweep_to_rest(self):
        """The steps up to the end of a round, or to a loss, as one row."""
        events = [copy.deepcopy(self.step())]
        while events[-1][0] not in ("end", "lost"):
            events.append(copy.deepcopy(self.step()))
        self.rows.append(("sweep", len(events)))
        self.log.append(events)

    def is_lost(self):
        return self.world.sweeper.phase == "lost"

    def scene(self):
        return Scene(self.room, kind_of(self.words), list(self.hands), self.rows)

    def after_begin(self, event, places):
        self.begin_round()
        self.noted.extend(event[2])
        self.case.assertEqual(event[1], self.told_so_far("begin"))

    def after_walk(self, event, places):
        self.walked.append(event[1])
        self.noted.extend(event[2])

    def after_look(self, event, places):
        self.looks.append(event[1])
        self.noted.extend(event[2])

    def after_cut(self, event, places):
        case = self.case
        births = event[2]
        case.assertEqual(event[1], len(births))
        case.assertEqual(births, sorted(births, key=lambda birth: places[birth]))
        # Each cell that was noted was there at the begin, was noted once and walked once, in that order.
        case.assertEqual(self.walked, self.noted)
        case.assertEqual(len(set(self.noted)), len(self.noted))
        case.assertLessEqual(set(self.noted), self.there_at_begin)
        case.assertEqual(set(births), self.there_at_begin - set(self.noted))
        case.assertEqual(len(self.walked), len(self.there_at_begin) - len(births))
        case.assertLessEqual(self.never_come_to, set(births))
        self.given_up.update(births)
        staying = [birth for birth in self.endless.names.values() if birth not in self.given_up]
        case.assertEqual(self.endless.come_to(staying) & self.given_up, set())
        self.doomed = list(births)
        self.places_at_cut = len(self.world.heap.cells)
        case.assertEqual(self.places_at_cut, self.most_there)

    def after_back(self, event, places):
        self.case.assertEqual(event[1], self.doomed.pop(0))
        self.case.assertEqual(event[2], [places[event[1]]])
        self.case.assertEqual(event[2], [self.passes])
        self.passes += 1
        self.units.pop(event[1])
        self.given_back.append(event[1])

    def after_pass(self, event, places):
        self.case.assertEqual(event[1:], (self.passes, []))
        self.passes += 1

    def after_end(self, event, places):
        case = self.case
        case.assertEqual(self.doomed, [])
        case.assertEqual(event[1:], (self.told_so_far("begin"), [len(self.walked), len(self.looks), self.passes]))
        case.assertEqual(self.passes, self.places_at_cut)
        case.assertEqual(sorted(self.given_back), sorted(self.given_up))
        everyone = (1 << len(self.hands)) - 1
        if self.words.startswith("first"):
            case.assertEqual(self.looks, [])
        if self.words.startswith("each"):
            case.assertEqual(self.looks, [1 << hand for hand in range(len(self.hands))])
        if self.words.startswith("last"):
            case.assertLessEqual(len(self.looks), len(self.walked))
            case.assertEqual(set(self.looks) - {everyone}, set())

    def after_lost(self, event, places):
        case = self.case
        case.assertNotIn(self.words, SOUND_WORDS)
        world = self.world
        place = follow(world.heap, roots(world), tuple(event[2]))
        case.assertEqual(birth_at(world.heap, place), event[1])
        case.assertNotEqual(world.heap.cells[place].tone, world.sweeper.sense)
        staying = [birth_at(world.heap, place) for place in roots(world)[-1]]
        case.assertIn(event[1], self.endless.come_to(staying))
        self.seen.add("lost by a name" if event[2][0] == len(self.hands) else "lost by a hand")

    def told_so_far(self, word):
        return len([event for event in self.told if event[0] == word])


def drawn(case, words, hands, room, seed, plays=150, to_rest=True):
    """A watch behind some hundreds of deeds with steps between them, or behind a loss."""
    dice = Dice(seed)
    watch = Watch(case, words, hands, room)
    # Few steps between the deeds in one weave, many in another.
    pace = 2 + dice.below(3)
    for number in range(plays):
        for deed in play_of(dice, watch.endless):
            watch.deed(deed)
            many = dice.below(pace) * dice.below(2)
            if many > 0:
                watch.sweep(many)
            if watch.is_lost():
                return watch
    if to_rest:
        watch.sweep_to_rest()
    return watch


class Rounds(unittest.TestCase):
    def test_weaves_of_every_kind(self):
        seen = {}
        for words in EVERY_WORDS:
            seen[words] = set()
            for many in range(1, 6):
                for seed in range(6):
                    watch = drawn(self, words, FIVE_HANDS[:many], (12, 60, 1000)[seed % 3], seed + 100 * many)
                    seen[words] |= watch.seen
                    # No event that was told has changed since.
                    self.assertEqual(watch.events, watch.told)
        self.all_was_seen(seen)

    def all_was_seen(self, seen):
        """The weaves are worth something only where each event and each refusal came up."""
        for words in EVERY_WORDS:
            asked = {"begin", "walk", "cut", "back", "pass", "end", "nothing found", "noted by sought",
                     EmptySlot, NoField, Full, NoName}
            if not words.startswith("first"):
                asked.add("look")
            if "old" in words or ("new" in words and not words.startswith("first")):
                asked.add("noted by put")
            if "new" in words and not words.startswith("first"):
                asked.add("noted by given")
            self.assertEqual(asked - seen[words], set(), words)

    def test_every_weave_of_a_kind_that_is_not_sound_can_be_carried_on_to_a_loss(self):
        for words in EVERY_WORDS:
            for many in range(1, 6):
                watch = drawn(self, words, FIVE_HANDS[:many], 30, many)
                if not watch.is_lost():
                    self.undo(watch)
                sound = words in SOUND_WORDS
                self.assertEqual(watch.world.sweeper.phase, "give" if sound else "lost", words)
                self.assertEqual(watch.told[-1][0], "cut" if sound else "lost", words)

    def undo(self, watch):
        """Lets all go, and then hides a cell from the sweeper where what it is not told would be needed."""
        for hand, slots in enumerate(watch.endless.slots):
            for slot in range(len(slots)):
                watch.deed(("drop", hand, slot))
        while watch.step()[0] != "end":
            pass
        self.assertEqual(watch.units, {})
        looking = watch.words.split(" ")[0]
        looks = len(watch.hands) if looking == "each" else 0
        if "old" not in watch.words and looking != "last":
            before = [("make", 0, 0, 1, 0), ("make", 0, 1, 0, 0), ("put", 0, 0, 0, 1), ("drop", 0, 1)]
            steps = (1, 2) if looking == "first" else (2, looks + 1)
            behind = [("get", 0, 1, 0, 0), ("put", 0, 0, 0, 2)]
        else:
            before = [("make", 0, 1, 0, 0)]
            steps = (1, looks + 1)
            behind = [("make", 0, 0, 1, 0), ("put", 0, 0, 0, 1), ("drop", 0, 1)]
        for deeds, many in ((before, steps[0]), (behind, steps[1])):
            for deed in deeds:
                watch.deed(deed)
            for number in range(many):
                watch.step()
        # Where the kind is sound, the sweeper has more to walk before its cut.
        while watch.words in SOUND_WORDS and watch.world.sweeper.phase == "walk":
            watch.step()

    def test_what_nobody_can_come_to_is_given_up_though_a_name_stands_for_it(self):
        for words in EVERY_WORDS:
            watch = Watch(self, words, FIVE_HANDS[:2], 50)
            for deed in (("make", 0, 0, 1, 0), ("make", 0, 1, 0, 0), ("put", 0, 0, 0, 1), ("name", 0, 0, "dear"),
                         ("name", 0, 1, "far"), ("drop", 0, 0), ("drop", 0, 1)):
                watch.deed(deed)
            while watch.step()[0] != "end":
                pass
            self.assertEqual(watch.given_back, [1, 2])
            watch.deed(("seek", 0, 0, "dear"))
            watch.deed(("seek", 1, 0, "far"))
            self.assertEqual(watch.told[-2:], [("sought", None, []), ("sought", None, [])])

    def test_passes_are_as_many_as_the_most_cells_that_were_there(self):
        for words in EVERY_WORDS:
            watch = Watch(self, words, FIVE_HANDS[:1], 50)
            for many, passes in ((3, 3), (1, 3), (5, 5), (0, 5), (4, 5)):
                for number in range(many):
                    watch.deed(("make", 0, 0, 0, 0))
                watch.deed(("drop", 0, 0))
                while watch.step()[0] != "end":
                    pass
                self.assertEqual(watch.told[-1][2][2], passes)


class Scenes(unittest.TestCase):
    """Drawn weaves, run as scenes: some end at rest, some within a round, some with a loss."""

    @classmethod
    def setUpClass(cls):
        cls.watches = []
        for words in EVERY_WORDS:
            for many in range(1, 6):
                for seed in range(4):
                    cls.watches.append(drawn(cls(), words, FIVE_HANDS[:many], (12, 40, 1000)[seed % 3],
                                             1000 + seed + 100 * many, 40 + 20 * seed, seed == 0))

    def test_they_end_in_every_way(self):
        ends = {(watch.words in SOUND_WORDS, watch.world.sweeper.phase) for watch in self.watches}
        self.assertEqual(ends, {(sound, phase) for sound in (True, False) for phase in ("rest", "walk", "give")}
                         | {(False, "lost")})
        for watch in self.watches:
            self.assertLessEqual(len(watch.rows), 1000)

    def test_a_run_answers_what_was_told(self):
        for watch in self.watches:
            scene = watch.scene()
            before = all_of(scene)
            self.assertEqual(run(scene), watch.log)
            self.assertEqual(run(scene), watch.log)
            self.assertEqual(all_of(scene), before)
            self.assertEqual(is_lost(watch.log), watch.is_lost())

    def test_a_run_of_the_first_rows_alone(self):
        for watch in self.watches:
            many = len(watch.rows)
            for most in (0, 1, many // 2, many - 1, many, many + 1):
                self.assertEqual(run(watch.scene(), most), watch.log[:most])

    def test_the_same_without_the_sweeper(self):
        seen = {"alike": 0, "full": 0, "nothing found": 0, "given back": 0}
        for watch in self.watches:
            rows = []
            told = []
            for row, events in zip(watch.rows, watch.log):
                if events == [("refused", "full", [])]:
                    seen["full"] += 1
                elif row[0] == "seek" and events[0][:2] == ("sought", None):
                    # In a heap that gives nothing back a seek that finds nothing leaves an empty slot, as a drop does.
                    rows.append(("drop",) + row[1:3])
                    told.append(None)
                    seen["nothing found"] += 1
                else:
                    rows.append(row)
                    told.append(events)
            seen["given back"] += len(watch.given_back)
            seen["alike"] += rows == watch.rows
            still = quiet(Scene(10 ** 15, kind_of(watch.words), list(watch.hands), rows))
            told = [events for row, events in zip(rows, told) if row[0] != "sweep"]
            log = run(still)
            self.assertEqual(len(log), len(told))
            for events, mine in zip(told, log):
                self.assertEqual(len(mine), 1)
                self.assertEqual(mine[0][2], [])
                if events is not None:
                    self.assertEqual(mine[0][:2], events[0][:2])
        self.assertGreater(min(seen.values()), 10, seen)

    def test_written_and_read(self):
        for watch in self.watches:
            scene = Scene(watch.room, kind_of(watch.words), list(watch.hands), watch.rows[:400])
            text = written(scene)
            self.assertEqual(all_of(read(text)), all_of(scene))
            self.assertEqual(written(read(text)), text)
            self.assertEqual(tell(text), report(watch.log[:400]))

    def test_reported_and_heard(self):
        for watch in self.watches:
            text = report(watch.log)
            self.assertEqual(heard(text), watch.log)
            self.assertEqual(report(heard(text)), text)

    def test_undone(self):
        undone = 0
        for watch in self.watches:
            scene = watch.scene()
            before = all_of(scene)
            if watch.words in SOUND_WORDS:
                with self.assertRaises(Sound):
                    undoing(scene)
                self.assertNotIn("lost", watch.seen)
            else:
                rows = undoing(scene)
                self.leads_to_a_loss(watch, scene, rows)
                undone += len(rows) > 1
            self.assertEqual(all_of(scene), before)
        self.assertGreater(undone, 30)

    def leads_to_a_loss(self, watch, scene, rows):
        self.assertEqual(rows == [], watch.is_lost())
        log = run(with_rows(scene, rows))
        self.assertEqual(log[:len(scene.rows)], watch.log)
        self.assertEqual(len(log), len(scene.rows) + len(rows))
        self.assertTrue(is_lost(log))
        behind = log[len(scene.rows):]
        for row, events in zip(rows, behind):
            self.assertEqual(len(events), row[1] if row[0] == "sweep" else 1)
            self.assertNotEqual(events[0][0], "refused")
        self.assertEqual([event[0] for events in log for event in events].count("lost"), 1)

    def test_undone_under_watch(self):
        # Each deed and each step of the rows that lead to the loss is held against what is promised, too.
        for words in EVERY_WORDS:
            if words not in SOUND_WORDS:
                for many in range(1, 6):
                    watch = drawn(self, words, FIVE_HANDS[:many], 30, 77 + many, 60, False)
                    for row in undoing(watch.scene()):
                        self.assertFalse(watch.is_lost())
                        if row[0] == "sweep":
                            watch.sweep(row[1])
                        else:
                            watch.deed(row)
                    self.assertTrue(watch.is_lost())
                    self.assertEqual(run(watch.scene()), watch.log)


if __name__ == "__main__":
    unittest.main()

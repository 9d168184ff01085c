"""Points 2 and 35: what holds over rounds with deeds between the steps, beside a heap that gives nothing back."""

import copy
import unittest

from greywalk.cells import birth_at
from greywalk.deeds import do
from greywalk.errors import EmptySlot, Full, NoField, NoName
from greywalk.sweeper import step
from greywalk.ways import follow
from greywalk.world import births_held, roots, told_cells
from worlds import EVERY_WORDS, FIVE_HANDS, SOUND_WORDS, new_world, plain

WORDS = ("dear", "far", "near")


class Dice:
    """Numbers that look thrown and are the same each time."""

    def __init__(self, seed):
        self.state = seed * 7919 + 1

    def below(self, bound):
        self.state = (self.state * 6364136223846793005 + 1442695040888963407) % 2 ** 64
        return (self.state >> 33) % bound

    def of(self, things):
        return things[self.below(len(things))]


class Endless:
    """The same deeds, by births, in a heap of endless room that never gives anything back."""

    def __init__(self, hands):
        self.fields = {}
        self.loads = {}
        self.slots = [[None] * many for name, many in hands]
        self.names = {}

    def cell(self, hand, slot):
        if self.slots[hand][slot] is None:
            raise EmptySlot
        return self.slots[hand][slot]

    def field(self, hand, slot, field):
        cell = self.cell(hand, slot)
        if field >= len(self.fields[cell]):
            raise NoField
        return self.fields[cell]

    def do(self, deed, given_up):
        """The word and the thing of a deed; those that a seek does not find are handed in."""
        word, hand = deed[:2]
        slots = self.slots[hand]
        if word == "make":
            birth = len(self.fields) + 1
            self.fields[birth] = [None] * deed[3]
            self.loads[birth] = 0
            slots[deed[2]] = birth
            return ("made", birth)
        if word == "get":
            slots[deed[2]] = self.field(hand, deed[3], deed[4])[deed[4]]
            return ("got", slots[deed[2]])
        if word == "put":
            fields = self.field(hand, deed[2], deed[3])
            before = fields[deed[3]]
            fields[deed[3]] = slots[deed[4]]
            return ("put", before)
        if word == "copy":
            slots[deed[2]] = slots[deed[3]]
            return ("copied", slots[deed[2]])
        if word == "drop":
            before = slots[deed[2]]
            slots[deed[2]] = None
            return ("dropped", before)
        if word == "give":
            self.slots[deed[3]][deed[4]] = slots[deed[2]]
            return ("given", slots[deed[2]])
        if word == "write":
            before = self.loads[self.cell(hand, deed[2])]
            self.loads[slots[deed[2]]] = deed[3]
            return ("wrote", before)
        if word == "read":
            return ("read", self.loads[self.cell(hand, deed[2])])
        if word == "name":
            self.names[deed[3]] = self.cell(hand, deed[2])
            return ("named", slots[deed[2]])
        if deed[3] not in self.names:
            raise NoName
        birth = self.names[deed[3]]
        slots[deed[2]] = None if birth in given_up else birth
        return ("sought", slots[deed[2]])

    def come_to(self, more=()):
        """The births that can be come to from the hands, and from more."""
        found = set()
        ahead = [birth for row in self.slots + [more] for birth in row if birth is not None]
        while ahead:
            birth = ahead.pop()
            if birth not in found:
                found.add(birth)
                ahead.extend(inner for inner in self.fields[birth] if inner is not None)
        return found


def slot_of(dice, slots):
    """Some slot, mostly one that holds a cell."""
    filled = [slot for slot, birth in enumerate(slots) if birth is not None]
    return dice.of(filled) if filled and dice.below(8) else dice.below(len(slots))


def field_of(dice, fields):
    """Some field, mostly one that is there, and that holds a cell."""
    filled = [field for field, birth in enumerate(fields) if birth is not None]
    if filled and dice.below(4):
        return dice.of(filled)
    return dice.below(len(fields)) if fields and dice.below(8) else dice.below(4)


def deed_of(dice, endless):
    """Some deed, made so that it is mostly not refused and that cells come to hold one another."""
    hand = dice.below(len(endless.slots))
    slots = endless.slots[hand]
    s = dice.below(3) if dice.below(4) else dice.below(len(slots))
    t = slot_of(dice, slots)
    field = field_of(dice, endless.fields.get(slots[t], []))
    word = dice.of(("make", "make", "get", "get", "get", "get", "put", "put", "put", "put", "put", "copy", "drop",
                    "give", "write", "read", "name", "seek"))
    if word == "make":
        return (word, hand, s, dice.of((0, 1, 2, 2, 3)), dice.of((0, 0, 0, 5)))
    if word == "get":
        return (word, hand, s, t, field)
    if word == "put":
        return (word, hand, t, field, dice.below(len(slots)) if dice.below(2) else slot_of(dice, slots))
    if word == "copy":
        return (word, hand, s, t)
    if word == "give":
        other = dice.below(len(endless.slots))
        return (word, hand, t, other, dice.below(len(endless.slots[other])))
    if word == "write":
        return (word, hand, t, dice.below(2000) - 1000)
    if word == "name":
        return (word, hand, t, dice.of(WORDS))
    if word == "seek":
        return (word, hand, s, dice.of(WORDS))
    return (word, hand, t)


def play_of(dice, endless):
    """Some deeds of one hand: one alone, or a few that hang a cell on another, hide it, move it or hand it over."""
    hand = dice.below(len(endless.slots))
    slots = endless.slots[hand]
    # Slot 0 is mostly left alone, so that what hangs on its cell grows; the last one is mostly empty.
    if slots[0] is None:
        return [("make", hand, 0, 3, 0)]
    t, other = slot_of(dice, slots), slot_of(dice, slots)
    s = 1 + dice.below(len(slots) - 2)
    empty = len(slots) - 1
    field = field_of(dice, endless.fields.get(slots[t], []))
    play = dice.of(("one", "one", "hang", "hang", "hang", "get", "hide", "move", "move", "over", "name", "seek",
                    "seek"))
    if play == "one":
        return [deed_of(dice, endless)]
    if play == "seek":
        return [("seek", hand, s, dice.of(WORDS))]
    if play == "hang":
        return [("make", hand, s, dice.of((0, 1, 2, 3, 3)), 0), ("put", hand, t, dice.below(3), s)]
    if play == "get":
        return [("get", hand, s, t, field)]
    if play == "hide":
        return [("get", hand, s, t, field), ("put", hand, t, field, empty)]
    if play == "move":
        return [("get", hand, s, t, field), ("put", hand, other, dice.below(3), s), ("put", hand, t, field, empty),
                ("copy", hand, s, other)]
    if play == "over":
        taker = dice.below(len(endless.slots))
        return [("give", hand, t, taker, 1 + dice.below(len(endless.slots[taker]) - 2)), ("drop", hand, s)]
    return [("name", hand, t, dice.of(WORDS)), ("drop", hand, s), ("drop", hand, empty)]


class Watch:
    """Does deeds and steps in a world beside an endless one, and holds each event against what is promised."""

    def __init__(self, case, words, hands, room):
        self.case = case
        self.words = words
        self.hands = hands
        self.world = new_world(words, room, hands)
        self.endless = Endless(hands)
        self.units = {}
        self.room = room
        self.most_there = 0
        self.given_up = set()
        self.given_back = []
        self.seen = set()
        self.events = []
        self.told = []
        self.begin_round()

    def begin_round(self):
        self.there_at_begin = set(self.units)
        self.never_come_to = set(self.units)
        self.noted = []
        self.walked = []
        self.looks = []
        self.passes = 0
        self.doomed = None

    def keep(self, event):
        self.events.append(event)
        self.told.append(copy.deepcopy(event))
        self.seen.add(event[0])

    def deed(self, deed):
        case = self.case
        try:
            expected = self.expected(deed)
        except (EmptySlot, NoField, Full, NoName) as error:
            before = plain(self.world)
            with case.assertRaises(error.__class__) as taken:
                do(self.world, deed)
            case.assertIs(taken.exception.__class__, error.__class__)
            case.assertEqual(plain(self.world), before)
            self.seen.add(error.__class__)
            return
        event = do(self.world, deed)
        self.keep(event)
        case.assertEqual(event[:2], expected)
        case.assertLessEqual(len(event[2]), 2)
        if expected == ("sought", None):
            self.seen.add("nothing found")
        if event[2]:
            self.seen.add("noted by " + event[0])
        self.noted.extend(event[2])
        self.most_there = max(self.most_there, len(self.units))
        self.look_round()

    def expected(self, deed):
        """What the endless heap answers; a make is refused where the cells not yet given back leave no room."""
        if deed[0] != "make":
            return self.endless.do(deed, self.given_up)
        units = 1 + deed[3] + deed[4]
        if units + sum(self.units.values()) > self.room:
            raise Full
        answer = self.endless.do(deed, self.given_up)
        self.units[answer[1]] = units
        return answer

    def look_round(self):
        """What must hold behind each deed and each step, as long as no loss was told."""
        reached = self.endless.come_to()
        self.never_come_to -= reached
        self.case.assertEqual(reached & self.given_up, set())
        self.case.assertEqual(births_held(self.world), self.endless.slots)
        self.case.assertEqual(self.world.heap.used, sum(self.units.values()))
        for place, birth, bulk, load, fields, mark in told_cells(self.world):
            if birth in reached:
                self.case.assertEqual((load, fields), (self.endless.loads[birth], self.endless.fields[birth]))

    def step(self):
        places = {birth_at(self.world.heap, place): place for place in self.world.heap.there()}
        event = step(self.world)
        self.keep(event)
        getattr(self, "after_" + event[0])(event, places)
        if event[0] != "lost":
            self.look_round()
        return event

    def after_begin(self, event, places):
        self.begin_round()
        self.noted.extend(event[2])
        self.case.assertEqual(event[1], self.told_so_far("begin"))

    def after_walk(self, event, places):
        self.walked.append(event[1])
        self.noted.extend(event[2])

    def after_look(self, event, places):
        self.looks.append(event[1])
        self.noted.extend(event[2])

    def after_cut(self, event, places):
        case = self.case
        births = event[2]
        case.assertEqual(event[1], len(births))
        case.assertEqual(births, sorted(births, key=lambda birth: places[birth]))
        # Each cell that was noted was there at the begin, was noted once and walked once, in that order.
        case.assertEqual(self.walked, self.noted)
        case.assertEqual(len(set(self.noted)), len(self.noted))
        case.assertLessEqual(set(self.noted), self.there_at_begin)
        case.assertEqual(set(births), self.there_at_begin - set(self.noted))
        case.assertEqual(len(self.walked), len(self.there_at_begin) - len(births))
        case.assertLessEqual(self.never_come_to, set(births))
        self.given_up.update(births)
        staying = [birth for birth in self.endless.names.values() if birth not in self.given_up]
        case.assertEqual(self.endless.come_to(staying) & self.given_up, set())
        self.doomed = list(births)
        self.places_at_cut = len(self.world.heap.cells)
        case.assertEqual(self.places_at_cut, self.most_there)

    def after_back(self, event, places):
        self.case.assertEqual(event[1], self.doomed.pop(0))
        self.case.assertEqual(event[2], [places[event[1]]])
        self.case.assertEqual(event[2], [self.passes])
        self.passes += 1
        self.units.pop(event[1])
        self.given_back.append(event[1])

    def after_pass(self, event, places):
        self.case.assertEqual(event[1:], (self.passes, []))
        self.passes += 1

    def after_end(self, event, places):
        case = self.case
        case.assertEqual(self.doomed, [])
        case.assertEqual(event[1:], (self.told_so_far("begin"), [len(self.walked), len(self.looks), self.passes]))
        case.assertEqual(self.passes, self.places_at_cut)
        case.assertEqual(sorted(self.given_back), sorted(self.given_up))
        everyone = (1 << len(self.hands)) - 1
        if self.words.startswith("first"):
            case.assertEqual(self.looks, [])
        if self.words.startswith("each"):
            case.assertEqual(self.looks, [1 << hand for hand in range(len(self.hands))])
        if self.words.startswith("last"):
            case.assertLessEqual(len(self.looks), len(self.walked))
            case.assertEqual(set(self.looks) - {everyone}, set())

    def after_lost(self, event, places):
        case = self.case
        case.assertNotIn(self.words, SOUND_WORDS)
        world = self.world
        place = follow(world.heap, roots(world), tuple(event[2]))
        case.assertEqual(birth_at(world.heap, place), event[1])
        case.assertNotEqual(world.heap.cells[place].tone, world.sweeper.sense)
        staying = [birth_at(world.heap, place) for place in roots(world)[-1]]
        case.assertIn(event[1], self.endless.come_to(staying))
        self.seen.add("lost by a name" if event[2][0] == len(self.hands) else "lost by a hand")

    def told_so_far(self, word):
        return len([event for event in self.told if event[0] == word])


class Rounds(unittest.TestCase):
    def weave(self, words, hands, room, seed):
        """A watch behind some hundreds of deeds with steps between them, or behind a loss."""
        dice = Dice(seed)
        watch = Watch(self, words, hands, room)
        # Few steps between the deeds in one weave, many in another.
        pace = 2 + dice.below(3)
        for number in range(150):
            for deed in play_of(dice, watch.endless):
                watch.deed(deed)
                for again in range(dice.below(pace) * dice.below(2)):
                    if watch.step()[0] == "lost":
                        return watch
        for number in range(2000):
            if watch.step()[0] in ("end", "lost"):
                break
        self.assertIn(watch.world.sweeper.phase, ("rest", "lost"))
        return watch

    def test_weaves_of_every_kind(self):
        seen = {}
        for words in EVERY_WORDS:
            seen[words] = set()
            for many in range(1, 6):
                for seed in range(6):
                    watch = self.weave(words, FIVE_HANDS[:many], (12, 60, 1000)[seed % 3], seed + 100 * many)
                    seen[words] |= watch.seen
                    # No event that was told has changed since.
                    self.assertEqual(watch.events, watch.told)
        self.all_was_seen(seen)

    def all_was_seen(self, seen):
        """The weaves are worth something only where each event and each refusal came up."""
        for words in EVERY_WORDS:
            asked = {"begin", "walk", "cut", "back", "pass", "end", "nothing found", "noted by sought",
                     EmptySlot, NoField, Full, NoName}
            if not words.startswith("first"):
                asked.add("look")
            if "old" in words or ("new" in words and not words.startswith("first")):
                asked.add("noted by put")
            if "new" in words and not words.startswith("first"):
                asked.add("noted by given")
            self.assertEqual(asked - seen[words], set(), words)

    def test_every_weave_of_a_kind_that_is_not_sound_can_be_carried_on_to_a_loss(self):
        for words in EVERY_WORDS:
            for many in range(1, 6):
                watch = self.weave(words, FIVE_HANDS[:many], 30, many)
                if watch.world.sweeper.phase != "lost":
                    self.undo(watch)
                sound = words in SOUND_WORDS
                self.assertEqual(watch.world.sweeper.phase, "give" if sound else "lost", words)
                self.assertEqual(watch.told[-1][0], "cut" if sound else "lost", words)

    def undo(self, watch):
        """Lets all go, and then hides a cell from the sweeper where what it is not told would be needed."""
        for hand, slots in enumerate(watch.endless.slots):
            for slot in range(len(slots)):
                watch.deed(("drop", hand, slot))
        while watch.step()[0] != "end":
            pass
        self.assertEqual(watch.units, {})
        looking = watch.words.split(" ")[0]
        looks = len(watch.hands) if looking == "each" else 0
        if "old" not in watch.words and looking != "last":
            before = [("make", 0, 0, 1, 0), ("make", 0, 1, 0, 0), ("put", 0, 0, 0, 1), ("drop", 0, 1)]
            steps = (1, 2) if looking == "first" else (2, looks + 1)
            behind = [("get", 0, 1, 0, 0), ("put", 0, 0, 0, 2)]
        else:
            before = [("make", 0, 1, 0, 0)]
            steps = (1, looks + 1)
            behind = [("make", 0, 0, 1, 0), ("put", 0, 0, 0, 1), ("drop", 0, 1)]
        for deeds, many in ((before, steps[0]), (behind, steps[1])):
            for deed in deeds:
                watch.deed(deed)
            for number in range(many):
                watch.step()
        # Where the kind is sound, the sweeper has more to walk before its cut.
        while watch.words in SOUND_WORDS and watch.world.sweeper.phase == "walk":
            watch.step()

    def test_what_nobody_can_come_to_is_given_up_though_a_name_stands_for_it(self):
        for words in EVERY_WORDS:
            watch = Watch(self, words, FIVE_HANDS[:2], 50)
            for deed in (("make", 0, 0, 1, 0), ("make", 0, 1, 0, 0), ("put", 0, 0, 0, 1), ("name", 0, 0, "dear"),
                         ("name", 0, 1, "far"), ("drop", 0, 0), ("drop", 0, 1)):
                watch.deed(deed)
            while watch.step()[0] != "end":
                pass
            self.assertEqual(watch.given_back, [1, 2])
            watch.deed(("seek", 0, 0, "dear"))
            watch.deed(("seek", 1, 0, "far"))
            self.assertEqual(watch.told[-2:], [("sought", None, []), ("sought", None, [])])

    def test_passes_are_as_many_as_the_most_cells_that_were_there(self):
        for words in EVERY_WORDS:
            watch = Watch(self, words, FIVE_HANDS[:1], 50)
            for many, passes in ((3, 3), (1, 3), (5, 5), (0, 5), (4, 5)):
                for number in range(many):
                    watch.deed(("make", 0, 0, 0, 0))
                watch.deed(("drop", 0, 0))
                while watch.step()[0] != "end":
                    pass
                self.assertEqual(watch.told[-1][2][2], passes)


if __name__ == "__main__":
    unittest.main()

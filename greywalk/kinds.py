"""Kinds of rounds: when the sweeper looks at what the hands hold, and what it is told meanwhile."""

OLD = 1
NEW = 2


def all_of(hands):
    return (1 << hands) - 1


# By itself a looking never looks; those under it say where they do otherwise.
class Looking:
    def word(self):
        return ""

    def needs(self):
        return 0

    def at_begin(self, hands):
        return 0

    def next_look(self, looked, hands):
        return 0

    def stays(self):
        return True


class First(Looking):
    def word(self):
        return "first"

    def needs(self):
        return OLD

    def at_begin(self, hands):
        return all_of(hands)


class Each(Looking):
    def word(self):
        return "each"

    def needs(self):
        return OLD | NEW

    def next_look(self, looked, hands):
        for hand in range(hands):
            if (looked >> hand) & 1 == 0:
                return 1 << hand
        return 0


class Last(Looking):
    def word(self):
        return "last"

    def needs(self):
        return NEW

    def next_look(self, looked, hands):
        return all_of(hands)

    def stays(self):
        return False


class Kind:
    def __init__(self, looking, tells):
        self.looking = looking
        self.tells = tells

    def sound(self):
        needs = self.looking.needs()
        return self.tells & needs == needs

    def words(self):
        text = self.looking.word()
        if self.tells & OLD != 0:
            text = text + " old"
        if self.tells & NEW != 0:
            text = text + " new"
        return text


def kind_of(text):
    for looking in [First(), Each(), Last()]:
        for tells in range(4):
            kind = Kind(looking, tells)
            if kind.words() == text:
                return kind
    return None

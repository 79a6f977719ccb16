"""Shadows: machines that see whether a run comes back to a stand without a wish's literal ever being 1."""

from everguard.machines import Machine
from everguard.machines import literal_of_wish
from everguard.machines import names_of
from everguard.machines import turned
from everguard.machinetext import LETTERS


class Additions:
    """Names and gates behind those of a machine."""

    def __init__(self, machine):
        self.gates = list(machine.gates)
        self.used = dict([(name, True) for name in names_of(machine)])
        self.names_tried = 0

    def fresh_name(self):
        """A name that neither the machine has nor was told before."""
        while True:
            self.names_tried += 1
            name = letters_of(self.names_tried)
            if name not in self.used:
                return name

    def both(self, one, other):
        """The literal that is 1 where both are."""
        name = self.fresh_name()
        self.gates.append((name, one, other))
        return name

    def either(self, one, other):
        """The literal that is 1 where one of them is, or both are."""
        return turned(self.both(turned(one), turned(other)))

    def alike(self, one, other):
        """The literal that is 1 where they are alike."""
        return self.both(turned(self.both(one, turned(other))), turned(self.both(turned(one), other)))

    def picked(self, test, one, other):
        """The literal that is as the one where the test is 1, and as the other where it is 0."""
        return self.either(self.both(test, one), self.both(turned(test), other))


class Shadow:
    """The shadow of a machine for a wish, and the names that it has more.

    A switch lets the bits of some keepers be copied; these must be enough to tell how the wish's literal goes on. One
    keeper more tells that they were copied, and one that the literal was 1. Where they were, it was not, and the copies
    are as the keepers are again, the run can go round for ever.
    """

    def __init__(self, machine, wish, keepers):
        added = Additions(machine)
        switch = added.fresh_name()
        self.copies = dict([(keeper, added.fresh_name()) for keeper in keepers])
        self.copied = added.fresh_name()
        self.seen = added.fresh_name()
        firsts = dict(machine.keepers)
        nexts = dict(machine.nexts)
        again = added.both(self.copied, turned(self.seen))
        for keeper, copy in self.copies.items():
            firsts[copy] = 0
            nexts[copy] = added.picked(switch, keeper, copy)
            again = added.both(again, added.alike(keeper, copy))
        firsts.update({self.copied: 0, self.seen: 0})
        nexts[self.copied] = added.either(self.copied, switch)
        nexts[self.seen] = added.either(self.seen, literal_of_wish(machine, wish))
        self.machine = Machine(machine.switches + [switch], firsts, added.gates, nexts, {wish: again}, {})


def letters_of(count):
    """The texts of letters, counted from 1: a to z, then those of two, and so on."""
    word = ""
    while count > 0:
        word = LETTERS[(count - 1) % len(LETTERS)] + word
        count = (count - 1) // len(LETTERS)
    return word

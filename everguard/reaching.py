"""The stands that can be come to, as trees."""

from everguard.covers import pieces_beside
from everguard.groves import Grove


def twin_of(keeper):
    """A name for the keeper's bit at another stand; no machine has such names."""
    return "'" + keeper


def reached_wall(machine):
    """The wall that is kept by just the stands that can be come to."""
    grove = PairedGrove(machine)
    return pieces_beside(grove.forest, grove.opposite_of(grove.reached_by(1)))


class PairedGrove(Grove):
    """A grove in which each keeper has a twin behind it in the order, so that a tree can speak of two stands."""

    def __init__(self, machine):
        order = []
        for keeper in machine.keepers:
            order.extend([keeper, twin_of(keeper)])
        Grove.__init__(self, machine, order + machine.switches)
        self.twins = dict([(keeper, self.forest.leaf_of(twin_of(keeper))) for keeper in machine.keepers])
        self.originals = dict([(twin_of(keeper), self.forest.leaf_of(keeper)) for keeper in machine.keepers])
        self.made_twins = {}
        self.made_originals = {}
        self.links = []

    def twinned(self, number):
        """The tree of stands with twins in the place of the keepers."""
        return self.forest.replaced(number, self.twins, self.made_twins)

    def all_links(self):
        """A list of tuples (tree, gone): trees that together let the twins be a move's next stand.

        Behind each of them go the names that the later ones don't need: the sooner these go, the smaller stay the trees
        in between.
        """
        if len(self.links) == 0:
            free = list(self.machine.keepers) + self.machine.switches
            for keeper in reversed(list(self.machine.keepers)):
                number = self.next_number(keeper)
                used = self.forest.names_in(number)
                same = self.forest.chosen(self.twins[keeper], number, self.opposite_of(number))
                self.links.append((same, dict([(name, True) for name in free if name in used])))
                free = [name for name in free if name not in used]
            self.links.append((1, dict([(name, True) for name in free])))
            self.links.reverse()
        return self.links

    def stands_behind(self, number):
        """The stands to which the moves of a tree lead."""
        for same, gone in self.all_links():
            number = self.forest.without(self.both_of(number, same), gone, {})
        return self.forest.replaced(number, self.originals, self.made_originals)

    def reached_by(self, allowed):
        """The stands that can be come to by moves of the tree alone."""
        found = self.first_stands()
        latest = found
        while latest != 0:
            behind = self.stands_behind(self.both_of(latest, allowed))
            latest = self.both_of(behind, self.opposite_of(found))
            found = self.either_of(found, latest)
        return found

"""Calm runs, at which the literal of a wish is always 0, as trees of a grove."""

from everguard.covers import piece_against
from everguard.covers import pieces_beside
from everguard.covers import ways_between
from everguard.machines import literal_of_wish
from everguard.reaching import PairedGrove


class Calm:
    """A machine's calm moves, and the stands from which there are calm runs of so many inputs, or endless ones."""

    def __init__(self, machine, wish):
        grove = PairedGrove(machine)
        self.grove = grove
        self.quiet = grove.opposite_of(grove.number_of(literal_of_wish(machine, wish)))
        # For 0, 1, 2 .. inputs; once they stay the same the last ones have endless runs.
        self.lasting = [1]
        # The calm moves to one of the last stands.
        self.onward = self.quiet
        while grove.stands_of(self.onward) != self.lasting[-1]:
            self.lasting.append(grove.stands_of(self.onward))
            self.onward = grove.both_of(self.quiet, grove.moves_into(self.lasting[-1]))

    def first_endless(self):
        """A first stand from which there is an endless calm run, or None."""
        number = self.grove.both_of(self.grove.first_stands(), self.lasting[-1])
        return None if number == 0 else self.grove.stand_in(number)

    def endless_input(self, stand):
        """An input with which an endless calm run goes on from the stand, which must have one."""
        return self.grove.input_in(self.onward, stand)

    def reached(self):
        """The tree of the stands that can be come to by calm moves."""
        return self.grove.reached_by(self.quiet)

    def reached_pieces(self, reached):
        """Pieces that are kept by just those stands."""
        return pieces_beside(self.grove.forest, self.grove.opposite_of(reached))

    def falling_pieces(self, reached):
        """Pieces over the keepers and their twins, for where there is no endless calm run from a first stand.

        Of two of those stands they are kept just where the twins' one has longer calm runs. Each calm move leads to a
        stand whose longest calm run is shorter, so none is come to again.
        """
        grove = self.grove
        falling = 0
        for lasting in self.lasting:
            short = grove.both_of(reached, grove.opposite_of(lasting))
            longer = grove.twinned(grove.both_of(reached, lasting))
            falling = grove.either_of(falling, grove.both_of(short, longer))
        most = grove.opposite_of(falling)
        # Which other pairs of stands keep them does not matter, so the ways may be as short as that lets them.
        least = grove.both_of(most, grove.both_of(reached, grove.twinned(reached)))
        return [piece_against(way) for way in ways_between(grove.forest, least, most)]

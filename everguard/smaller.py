"""Machines made smaller round by round, and answers carried back."""

from everguard.alike import by_alike
from everguard.cones import by_cone
from everguard.machines import turned
from everguard.running import value_of
from everguard.settled import by_settled

WAYS = 3


def made_small(machine, wish):
    """The rounds by cone, settled and alike, again and again, that make the machine as small as it gets."""
    rounds = []
    turn = 0
    idle = 0
    while idle < WAYS:
        made = made_by(turn % WAYS, machine, wish)
        turn += 1
        if is_idle(machine, made):
            idle += 1
        else:
            idle = 0
            rounds.append(made)
            machine = made[0]
    return rounds


def made_by(way, machine, wish):
    """The round by one of the ways, which are counted in their order."""
    if way == 0:
        return by_cone(machine, wish)
    if way == 1:
        return by_settled(machine)
    return by_alike(machine)


def is_idle(machine, made):
    """Whether each name and each wish goes to itself in the round."""
    small = made[0]
    if len(small.nevers) + len(small.somes) < len(machine.nevers) + len(machine.somes):
        return False
    return all([goal == name for name, goal in made[1].items()])


def last_machine(machine, rounds):
    """The machine that the last round made, or the machine itself where there is none."""
    return machine if len(rounds) == 0 else rounds[-1][0]


def row_back(machine, rounds, first, row):
    """(first, row) of the machine's run that goes as this run of the last round's machine."""
    machines = [machine] + [made[0] for made in rounds]
    inputs = list(row)
    for place in range(len(rounds) - 1, -1, -1):
        first = stand_back(machines[place], rounds[place], first)
        inputs = [input_back(machines[place], rounds[place], told) for told in inputs]
    return (first, inputs)


def stand_back(machine, made, stand):
    """The machine's first stand that goes with one of the round's machine."""
    bits = dict(zip(made[0].keepers, stand))
    found = []
    for keeper, first in machine.keepers.items():
        goal = made[1][keeper]
        if goal is None:
            found.append(0 if first is None else first)
        else:
            found.append(value_of(bits, goal))
    return tuple(found)


def input_back(machine, made, told):
    """The machine's input that goes with one of the round's machine."""
    bits = dict(zip(made[0].switches, told))
    return tuple([bits.get(name, 0) for name in machine.switches])


def wall_back(machine, rounds, wall):
    """A wall of the machine, of a wall of the last round's machine for the same wish."""
    pieces = list(wall)
    for made in rounds:
        for keeper in machine.keepers:
            # A keeper that an earlier round left out has no goal here.
            pieces.extend(goal_pieces(keeper, made[1].get(keeper)))
    return pieces


def goal_pieces(keeper, goal):
    """The pieces that are kept just where the keeper is as its goal, an earlier keeper's literal or a bit."""
    if goal is None or goal == keeper:
        return []
    if goal == "0":
        return [(turned(keeper),)]
    if goal == "1":
        return [(keeper,)]
    return [(turned(goal), keeper), (goal, turned(keeper))]

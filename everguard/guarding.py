"""Walls found piece by piece, level by level.

A level has pieces that all stands keep which can be come to by so many steps; those of a higher level are pieces of
each lower one too. Where a stand of the highest level comes to the wish's literal, a piece that it breaks is learnt,
or a stand one step ahead of it is gone after one level lower; a first stand makes a row. Once two levels have the same
pieces these are a wall.

Within, literals are numbers as `Numbers` has them, and pieces are tuples of such.
"""

from everguard.machines import literal_of_wish
from everguard.machines import next_of
from everguard.numbers import Numbers
from everguard.pieces import are_at_odds
from everguard.searching import Search
from everguard.solving import wants_behind

MOST_PASSING = 40


def guarded(machine, wish):
    """("row", first, row, learnt) with a row that comes there, or ("wall", wall, learnt)."""
    guard = Guard(machine, wish)
    level = 0
    while True:
        task = guard.cleared(level)
        if task is not None:
            return ("row", guard.first_of(task), task.row(), guard.learnt)
        wall = guard.raised(level)
        if wall is not None:
            return ("wall", wall, guard.learnt)
        level += 1


class Task:
    """Stands that must not be: all that have the bits go by one row to the wish's literal; one of them is told."""

    def __init__(self, cube, stand, told, after):
        self.cube = cube
        self.stand = stand
        self.told = told
        self.after = after

    def row(self):
        """The row: this task's input, and behind it that of the one it leads to, and so on."""
        inputs = []
        task = self
        while task is not None:
            inputs.append(task.told)
            task = task.after
        return inputs


class Level:
    """One step of the machine from the stands that keep all pieces of a level."""

    def __init__(self, many, clauses, pieces, place):
        self.size = many
        self.base = clauses
        self.pieces = pieces
        self.place = place
        self.passing = 0
        self.search = None
        self.renew()

    def renew(self):
        """Begin a search anew, rid of the pieces that were asked for but once."""
        self.passing = 0
        self.search = Search(self.size + MOST_PASSING)
        self.search.take(self.base)
        for pieces in self.pieces[self.place:]:
            self.search.take(pieces)

    def hold(self, piece):
        """Take a further piece."""
        self.search.take([piece])

    def ask(self, wants):
        """("yes", choice) or ("no", wants on which it hangs)."""
        clash = self.search.clash_with(wants)
        if clash is None:
            return ("yes", self.search.choice())
        return ("no", wants_behind(self.search, clash))

    def ask_within(self, piece, wants):
        """The same, from those stands alone that keep the piece too."""
        if self.passing == MOST_PASSING:
            self.renew()
        self.passing += 1
        # The piece counts only where this variable is wanted, and it is never wanted again.
        switch = self.size + self.passing
        self.search.take([(-switch,) + piece])
        answer = self.ask([switch] + wants)
        self.search.take([[-switch]])
        return answer


class Guard:
    """A machine and a wish, and what was learnt of them."""

    def __init__(self, machine, wish):
        numbers = Numbers(machine)
        self.size = numbers.many()
        self.base = numbers.clauses()
        self.wanted = numbers.number(literal_of_wish(machine, wish))
        self.firsts = list(machine.keepers.values())
        self.inputs = [numbers.number(name) for name in machine.switches]
        self.bearers = [numbers.number(name) for name in machine.keepers]
        self.joints = [[numbers.number(literal) for literal in gate] for gate in machine.gates]
        self.weights = weights_of(self.size, self.bearers, self.joints)
        # For each keeper's number, turned or not: what it will be, its text, and whether it is so at first.
        self.aheads = {}
        self.words = {}
        self.sure = {}
        for name, first in machine.keepers.items():
            number = numbers.number(name)
            ahead = numbers.number(next_of(machine, name))
            self.aheads.update({number: ahead, -number: -ahead})
            self.words.update({number: name, -number: "~" + name})
            if first is not None:
                self.sure[number if first == 1 else -number] = True
        # At each level the pieces that are known for it and not for the next one.
        self.pieces = [[(number,) for number in self.sure]]
        self.levels = [Level(self.size, self.base, self.pieces, 0)]
        self.learnt = []

    def cleared(self, level):
        """Learn pieces till no stand of the level is at the wish's literal; a task of a first stand, or None."""
        while True:
            answer = self.levels[level].ask([self.wanted])
            if answer[0] == "no":
                return None
            task = self.barred(self.task_of(answer[1], [self.wanted], None), level)
            if task is not None:
                return task

    def barred(self, task, level):
        """Learn pieces till the task's stands are none of the level's; a task of a first stand, or None."""
        waiting = [[] for place in range(level + 1)]
        waiting[level].append(task)
        low = level
        while low <= level:
            if len(waiting[low]) == 0:
                low += 1
                continue
            task = waiting[low].pop()
            if not any([-number in self.sure for number in task.cube]):
                return task
            height = self.height_of(task.cube)
            if height < low:
                earlier = self.step_into(task, low, level)
                if earlier is not None:
                    waiting[low].append(task)
                    low -= 1
                    waiting[low].append(earlier)
                    continue
                height = self.learnt[-1][2]
            # A task that is barred here is looked at again higher up, where it is met sooner or later.
            if height < level:
                waiting[height + 1].append(task)
        return None

    def height_of(self, cube):
        """The highest level with a piece that all stands with these bits break; 0 where there is none."""
        for height in range(len(self.pieces) - 1, 0, -1):
            for piece in self.pieces[height]:
                if all([-number in cube for number in piece]):
                    return height
        return 0

    def step_into(self, task, low, level):
        """A task of a step of the level below low into the task's stands; None where a piece was learnt instead."""
        piece = tuple([-number for number in task.cube])
        answer = self.step_out(piece, low - 1)
        if answer[0] == "yes":
            return self.task_of(answer[1], [self.aheads[number] for number in task.cube], task)
        piece = self.shrunk(self.part(piece, answer[1]), low - 1)
        height = low
        while height < level and self.step_out(piece, height)[0] == "no":
            height += 1
        self.add_piece(piece, 1, height)
        self.learnt.append((task.stand, task.row(), height, self.as_texts(piece)))
        return None

    def step_out(self, piece, level):
        """What the level tells of a step from a stand that keeps the piece to one that breaks it."""
        wants = [-self.aheads[number] for number in piece]
        if are_at_odds(wants):
            return ("no", dict([(want, True) for want in wants if -want in wants]))
        return self.levels[level].ask_within(piece, wants)

    def part(self, piece, used):
        """The part of the piece that the used wants are of, with a number that is so at first."""
        needed = [number for number in piece if -self.aheads[number] in used]
        if not any([number in self.sure for number in needed]):
            needed.append([number for number in piece if number in self.sure][0])
        return tuple([number for number in piece if number in needed])

    def shrunk(self, piece, level):
        """The piece without the numbers that can be left out one by one, as far as the level tells."""
        small = piece
        for number in piece:
            fewer = tuple([other for other in small if other != number])
            if len(fewer) < len(small) and any([other in self.sure for other in fewer]):
                answer = self.step_out(fewer, level)
                if answer[0] == "no":
                    small = self.part(fewer, answer[1])
        return small

    def add_piece(self, piece, low, height):
        """Let a piece of the levels below low be one up to the height, in the place of those that say no more."""
        for place in range(1, height + 1):
            self.pieces[place] = [other for other in self.pieces[place] if not is_within(piece, other)]
        self.pieces[height].append(piece)
        for place in range(low, height + 1):
            self.levels[place].hold(piece)

    def raised(self, level):
        """Raise pieces to the next level where they hold there; the wall where two levels are the same, or None."""
        self.pieces.append([])
        self.levels.append(Level(self.size, self.base, self.pieces, level + 1))
        for place in range(1, level + 1):
            for piece in list(self.pieces[place]):
                if piece in self.pieces[place] and self.step_out(piece, place)[0] == "no":
                    self.add_piece(piece, place + 1, place + 1)
            if len(self.pieces[place]) == 0:
                return self.wall_above(place)
        return None

    def wall_above(self, place):
        """All pieces of the levels above."""
        wall = []
        for pieces in self.pieces[place + 1:]:
            wall.extend([self.as_texts(piece) for piece in pieces])
        return wall

    def as_texts(self, piece):
        """The piece's literals as texts."""
        return tuple([self.words[number] for number in piece])

    def first_of(self, task):
        """The task's stand with the first bits that are told."""
        return tuple([bit if first is None else first for first, bit in zip(self.firsts, task.stand)])

    def task_of(self, choice, needs, after):
        """A task of the choice's stand and input, at which the needed numbers are so."""
        stand = tuple([choice[variable - 1] for variable in self.bearers])
        told = tuple([choice[variable - 1] for variable in self.inputs])
        return Task(self.causes(choice, needs), stand, told, after)

    def causes(self, choice, needs):
        """Keepers' numbers that are so by the choice and are enough, with its input, for the needed ones."""
        marked = dict([(abs(number), True) for number in needs])
        for gate, one, other in reversed(self.joints):
            if gate in marked and is_so(choice, gate):
                marked.update({abs(one): True, abs(other): True})
            elif gate in marked:
                marked[self.nought_of(choice, one, other, marked)] = True
        kept = [variable for variable in self.bearers if variable in marked]
        return tuple([variable if is_so(choice, variable) else -variable for variable in kept])

    def nought_of(self, choice, one, other, marked):
        """The variable of one of two numbers that isn't so, best one that is marked already or hangs on few keepers."""
        if is_so(choice, one):
            return abs(other)
        if is_so(choice, other) or abs(one) in marked:
            return abs(one)
        if abs(other) in marked or self.weights[abs(other)] < self.weights[abs(one)]:
            return abs(other)
        return abs(one)


def is_so(choice, number):
    """Whether the number is so by the choice."""
    return (choice[abs(number) - 1] == 1) == (number > 0)


def is_within(piece, other):
    """Whether the other piece has all numbers of the piece, so that it is kept wherever the piece is."""
    return all([number in other for number in piece])


def weights_of(many, bearers, joints):
    """For each variable the count of the ways by gates from it to keepers."""
    weights = [0] * (many + 1)
    for variable in bearers:
        weights[variable] = 1
    for gate, one, other in joints:
        weights[gate] = weights[abs(one)] + weights[abs(other)]
    return weights

"""A search for choices: it tries bits and learns a clause from each clash; what it learnt stays for the next question.

The wants are set first, without any reason, and stay; so each learnt clause follows from the clauses alone,
with turned wants in it where it needs them, and the last clash comes down to turned wants.
"""

RESTART_UNIT = 100
FORGET_FROM = 600
FORGET_GROWTH = 200
WORTHY_SPAN = 2


class Order:
    """The variables in a ring round 0, those of the latest clashes last: these are tried first."""

    def __init__(self):
        self.ahead = [0]
        self.behind = [0]
        self.marks = [0]
        self.newest = 0
        # Behind this one no variable is without a bit.
        self.seek = 0

    def lengthen(self, many):
        """Put further variables last, up to so many."""
        for variable in range(len(self.marks), many + 1):
            self.ahead.append(0)
            self.behind.append(0)
            self.marks.append(0)
            self.link_last(variable)
        self.seek = self.ahead[0]

    def link_last(self, variable):
        """Put a variable, which is in no place, behind all others."""
        last = self.ahead[0]
        self.behind[last] = variable
        self.ahead[variable] = last
        self.behind[variable] = 0
        self.ahead[0] = variable
        self.newest += 1
        self.marks[variable] = self.newest

    def freed(self, variable):
        """Take notice of a variable that has no bit any more."""
        if self.marks[variable] > self.marks[self.seek]:
            self.seek = variable

    def latest_free(self, bits):
        """The latest variable without a bit, or 0."""
        variable = self.seek
        while variable != 0 and bits[variable] != 0:
            variable = self.ahead[variable]
        self.seek = variable
        return variable

    def put_last(self, variables):
        """Put the variables, which have bits, behind all others."""
        for variable in sorted(variables, key=self.mark_of):
            before = self.ahead[variable]
            after = self.behind[variable]
            self.behind[before] = after
            self.ahead[after] = before
            self.link_last(variable)

    def mark_of(self, variable):
        """How late the variable was put last."""
        return self.marks[variable]


class Pauses:
    """When the search goes back to its beginning: in runs of 1, 1, 2, 1, 1, 2, 4 .. units of clashes."""

    def __init__(self):
        self.turn = 1
        self.length = 1
        self.left = RESTART_UNIT

    def due(self):
        """Count a clash; whether a run has ended by it."""
        self.left -= 1
        if self.left > 0:
            return False
        if self.turn & -self.turn == self.length:
            self.turn += 1
            self.length = 1
        else:
            self.length *= 2
        self.left = self.length * RESTART_UNIT
        return True


class Search:
    """A choice in the making, and all clauses given and learnt."""

    def __init__(self, many):
        self.size = 0
        self.held = []
        # From each given clause's number to its place among the given ones.
        self.ranks = {}
        # The numbers of the clauses of one number or none.
        self.singles = []
        # Lists by numbers from -size to size: those below nought lie at the list's end.
        self.bits = [0]
        self.watches = [[]]
        self.pairs = [[]]
        self.levels = [0]
        self.reasons = [None]
        self.places = [0]
        self.signs = [-1]
        self.trail = []
        self.passed = 0
        self.cuts = []
        self.order = Order()
        self.pauses = Pauses()
        # From each learnt clause's number to the clauses it came from, and to how many levels it has.
        self.chains = {}
        self.spans = {}
        self.forget_at = FORGET_FROM
        self.widen(many)

    def widen(self, many):
        """Let there be so many variables, no fewer than there are, from the next question on."""
        more = many - self.size
        middle = self.size + 1
        self.bits = self.bits[:middle] + [0] * (2 * more) + self.bits[middle:]
        self.watches = self.watches[:middle] + [[] for place in range(2 * more)] + self.watches[middle:]
        self.pairs = self.pairs[:middle] + [[] for place in range(2 * more)] + self.pairs[middle:]
        self.levels.extend([0] * more)
        self.reasons.extend([None] * more)
        self.places.extend([0] * more)
        self.signs.extend([-1] * more)
        self.order.lengthen(many)
        self.size = many

    def take(self, clauses):
        """Take further given clauses, from the next question on."""
        for clause in clauses:
            self.ranks[len(self.held)] = len(self.ranks)
            self.held.append(list(clause))
            self.watch(len(self.held) - 1)

    def watch(self, number):
        """Let a clause be looked at when one of its first two numbers is no longer so."""
        clause = self.held[number]
        if len(clause) < 2:
            self.singles.append(number)
        elif len(clause) == 2:
            self.pairs[clause[0]].append((clause[1], number))
            self.pairs[clause[1]].append((clause[0], number))
        else:
            self.watches[clause[0]].append(number)
            self.watches[clause[1]].append(number)

    def level(self):
        """How many bits were tried that still stand."""
        return len(self.cuts)

    def choice(self):
        """The bits of all variables, once they all have one."""
        return [1 if bit == 1 else 0 for bit in self.bits[1:self.size + 1]]

    def clash_with(self, wants):
        """None where a choice has the wants, which is then at hand, or the clause that clashes with them at last."""
        clash = self.begun(wants)
        while True:
            if clash is None:
                clash = self.passed_on()
            if clash is None:
                if not self.tried():
                    return None
            elif self.level() == 0:
                return clash
            else:
                self.learn(clash)
                clash = None

    def begun(self, wants):
        """Set the wants and the clauses of one number; the number of a clause that clashes, or None."""
        self.take_back_all()
        for want in wants:
            if self.bits[want] == 0:
                self.put(want, None)
        for number in self.singles:
            clause = self.held[number]
            if len(clause) == 0 or self.bits[clause[0]] == -1:
                return number
            if self.bits[clause[0]] == 0:
                self.put(clause[0], number)
        return None

    def put(self, literal, reason):
        """Let a number be so, for the clause that asks for it, or for none."""
        variable = abs(literal)
        self.bits[literal] = 1
        self.bits[-literal] = -1
        self.levels[variable] = len(self.cuts)
        self.reasons[variable] = reason
        self.places[variable] = len(self.trail)
        self.trail.append(literal)

    def tried(self):
        """Try a bit for a variable that has none; whether there was one."""
        variable = self.order.latest_free(self.bits)
        if variable == 0:
            return False
        self.cuts.append(len(self.trail))
        self.put(variable * self.signs[variable], None)
        return True

    def passed_on(self):
        """Put all that the clauses ask for; the number of a clause that clashes, or None."""
        bits = self.bits
        while self.passed < len(self.trail):
            fallen = -self.trail[self.passed]
            self.passed += 1
            for other, number in self.pairs[fallen]:
                if bits[other] == 0:
                    self.put(other, number)
                elif bits[other] == -1:
                    return number
            clash = self.looked_at(fallen)
            if clash is not None:
                return clash
        return None

    def looked_at(self, fallen):
        """Look at the clauses that watch a number which is no longer so; one that clashes, or None."""
        bits = self.bits
        held = self.held
        watching = self.watches[fallen]
        stay = []
        self.watches[fallen] = stay
        for seen, number in enumerate(watching):
            clause = held[number]
            first = clause[0]
            if first == fallen:
                first = clause[1]
                clause[0] = first
                clause[1] = fallen
            bit = bits[first]
            if bit == 1:
                stay.append(number)
                continue
            place = 2
            while place < len(clause) and bits[clause[place]] == -1:
                place += 1
            if place < len(clause):
                clause[1] = clause[place]
                clause[place] = fallen
                self.watches[clause[1]].append(number)
                continue
            stay.append(number)
            if bit == -1:
                stay.extend(watching[seen + 1:])
                return number
            self.put(first, number)
        return None

    def learn(self, clash):
        """Learn a clause from a clash and go back to where it asks for a number."""
        seen = {}
        chain = []
        single = self.singled_out(clash, seen, chain)
        needless = self.join_needless(seen, chain)
        others = [variable for variable in seen if self.is_lower(variable) and variable not in needless]
        # Latest first: the watched ones must be those that a step back lets stand again before the others.
        places = sorted([self.places[variable] for variable in others], reverse=True)
        clause = [-single] + [-self.trail[place] for place in places]
        number = self.keep(clause, chain)
        self.order.put_last([variable for variable in seen if self.levels[variable] > 0])
        self.go_back(self.levels[abs(clause[1])] if len(clause) > 1 else 0)
        self.put(clause[0], number)
        if self.pauses.due():
            self.go_back(0)
            self.forget()

    def singled_out(self, clash, seen, chain):
        """Join reasons to the clash till it has one number of the latest level; that one's turned one."""
        level = len(self.cuts)
        reason = clash
        pivot = 0
        place = len(self.trail)
        waiting = 0
        while True:
            chain.append((reason, pivot))
            for literal in self.held[reason]:
                variable = abs(literal)
                if variable not in seen:
                    seen[variable] = True
                    if self.levels[variable] == level:
                        waiting += 1
            place -= 1
            while abs(self.trail[place]) not in seen:
                place -= 1
            pivot = self.trail[place]
            waiting -= 1
            if waiting == 0:
                return pivot
            reason = self.reasons[abs(pivot)]

    def is_lower(self, variable):
        """Whether the variable has its bit from a lower level than the latest."""
        return self.levels[variable] < len(self.cuts)

    def join_needless(self, seen, chain):
        """Join the reasons of the lower variables that follow from the others; a dict of these."""
        needless = {}
        for variable in seen:
            if self.is_lower(variable) and self.is_needless(variable, seen):
                needless[variable] = True
        # From the latest to the earliest: a reason may have needless ones whose turn comes behind it.
        for place in sorted([self.places[variable] for variable in needless], reverse=True):
            pivot = self.trail[place]
            reason = self.reasons[abs(pivot)]
            chain.append((reason, pivot))
            for literal in self.held[reason]:
                seen[abs(literal)] = True
        return needless

    def is_needless(self, variable, seen):
        """Whether the variable's reason asks for nothing but what is seen or stands for good."""
        reason = self.reasons[variable]
        # What stands for good is left to the last chain, which joins each such reason once.
        if reason is None or self.levels[variable] == 0:
            return False
        for literal in self.held[reason]:
            if abs(literal) not in seen and self.levels[abs(literal)] > 0:
                return False
        return True

    def keep(self, clause, chain):
        """Keep a learnt clause with what it came from; its number."""
        number = len(self.held)
        self.held.append(clause)
        self.chains[number] = chain
        self.spans[number] = len(set([self.levels[abs(literal)] for literal in clause]))
        self.watch(number)
        return number

    def go_back(self, level):
        """Take back all that was put above the level."""
        if level < len(self.cuts):
            self.unput(self.cuts[level])
            self.cuts = self.cuts[:level]

    def take_back_all(self):
        """Take back all that was put, the wants too."""
        self.unput(0)
        self.cuts = []

    def unput(self, cut):
        """Take back all that was put behind the first ones, which are so many."""
        while len(self.trail) > cut:
            literal = self.trail.pop()
            variable = abs(literal)
            self.bits[literal] = 0
            self.bits[-literal] = 0
            self.signs[variable] = 1 if literal > 0 else -1
            self.order.freed(variable)
        self.passed = cut

    def forget(self):
        """Once there are many, look no longer at the half of the learnt clauses that has the most levels."""
        if len(self.spans) < self.forget_at:
            return
        self.forget_at += FORGET_GROWTH
        ranked = sorted([(span, -number) for number, span in self.spans.items() if span > WORTHY_SPAN])
        gone = {}
        for span, age in ranked[len(ranked) // 2:]:
            gone[-age] = True
            self.spans.pop(-age)
        for place in range(len(self.watches)):
            self.watches[place] = [number for number in self.watches[place] if number not in gone]

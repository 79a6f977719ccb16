"""Rows of one input, of two, and so on, each length a question of its own for one search."""

from everguard.machines import literal_of_wish
from everguard.refuting import refuted
from everguard.searching import Search
from everguard.solving import answer_of
from everguard.steps import Steps


class Lengths:
    """A search for rows that come to a wish's literal, one length behind the other."""

    def __init__(self, machine, wish):
        self.machine = machine
        self.literal = literal_of_wish(machine, wish)
        self.tried_up_to = 0
        self.search = Search(1)
        self.search.take(Steps(machine, 0).first_clauses())

    def longer(self):
        """("row", first, row) with a row of one more input than was asked for last, or ("none", paper)."""
        last = self.tried_up_to
        self.tried_up_to += 1
        steps = Steps(self.machine, self.tried_up_to)
        self.search.widen(steps.many())
        self.search.take(steps.clauses_of(last))
        answer = answer_of(self.search, [steps.number(self.literal, last)])
        if answer[0] == "yes":
            return ("row",) + steps.run_of(answer[1])
        return ("none", answer[1])


def shortest_row(machine, wish, most):
    """("row", first, row) with a shortest row of at most so many inputs, or ("none", papers)."""
    lengths = Lengths(machine, wish)
    papers = []
    for count in range(most):
        answer = lengths.longer()
        if answer[0] == "row":
            return answer
        papers.append(answer[1])
    return ("none", papers)


def none_shown(machine, wish, most, papers):
    """Whether the papers show that no row of at most so many inputs comes there."""
    if len(papers) != most:
        return False
    literal = literal_of_wish(machine, wish)
    return all([is_shown(machine, literal, length, paper) for length, paper in enumerate(papers, start=1)])


def is_shown(machine, literal, length, paper):
    """Whether the paper shows that no row of so many inputs comes to the literal."""
    steps = Steps(machine, length)
    return refuted(steps.clauses(), [steps.number(literal, length - 1)], paper)

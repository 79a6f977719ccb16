"""A checker of papers: it walks their steps and searches nothing."""


def refuted(clauses, wants, paper):
    """Whether the paper shows that no choice keeps the clauses with the wants."""
    return refuted_by(as_dicts(clauses), wants, paper)


def as_dicts(clauses):
    """The clauses, each as a dict of its numbers."""
    return [dict([(number, True) for number in clause]) for clause in clauses]


def refuted_by(given, wants, paper):
    """The same of given clauses that are dicts already, which several papers can share."""
    known = walked_clauses(given, paper[0])
    if known is None or not is_there(known, paper[1]):
        return False
    turned_wants = {}
    for want in wants:
        turned_wants[-want] = True
    return all([number in turned_wants for number in known[paper[1]]])


def clause_behind(clauses, paper):
    """The last clause of a paper that is refuted with some wants, its numbers rising."""
    known = walked_clauses(as_dicts(clauses), paper[0])
    return sorted(known[paper[1]])


def walked_clauses(given, steps):
    """The given clauses and those of the steps, each a dict of its numbers; None where a step is wrong."""
    known = list(given)
    for step in steps:
        clause = clause_of_step(known, step)
        if clause is None:
            return None
        known.append(clause)
    return known


def clause_of_step(known, step):
    """The clause that the step makes of two known ones, or None where it is wrong."""
    variable = step[2]
    if variable < 1 or not is_there(known, step[0]) or not is_there(known, step[1]):
        return None
    one = known[step[0]]
    other = known[step[1]]
    if variable not in one or -variable not in other:
        return None
    clause = {}
    for number in one:
        if number != variable:
            clause[number] = True
    for number in other:
        if number != -variable:
            clause[number] = True
    if any([-number in clause for number in clause]):
        return None
    return clause


def is_there(known, place):
    """Whether a clause has the number; one below nought must not count from the end."""
    return place >= 0 and place < len(known)

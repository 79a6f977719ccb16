"""A solver of choices, and the papers that it tells of what the search learnt."""

from everguard.searching import Search


def solved(many, clauses, wants):
    """("yes", choice) with a choice that keeps the clauses and has the wants, or ("no", paper)."""
    search = Search(many)
    search.take(clauses)
    return answer_of(search, wants)


def answer_of(search, wants):
    """What solved tells of all clauses that the search was given."""
    clash = search.clash_with(wants)
    if clash is None:
        return ("yes", search.choice())
    return ("no", paper_of(search, clash))


def paper_of(search, clash):
    """The paper of a clash that no try has a part in."""
    last = last_chain(search, clash)
    steps = []
    # From the search's numbers of clauses to those of the paper.
    renamed = dict(search.ranks)
    for number in needed(search, last):
        renamed[number] = write_chain(search.chains[number], renamed, steps, len(search.ranks))
    return (steps, write_chain(last, renamed, steps, len(search.ranks)))


def last_chain(search, clash):
    """Join reasons to the clash till turned wants alone are left."""
    chain = [(clash, 0)]
    seen = {}
    for literal in search.held[clash]:
        seen[abs(literal)] = True
    for pivot in reversed(search.trail):
        reason = search.reasons[abs(pivot)]
        if abs(pivot) in seen and reason is not None:
            chain.append((reason, pivot))
            for literal in search.held[reason]:
                seen[abs(literal)] = True
    return chain


def needed(search, last):
    """The numbers of the learnt clauses on which the last chain hangs, rising."""
    hung_on = dict(last)
    # A clause came from earlier ones alone, so one walk from the last to the first sees all.
    for number in reversed(list(search.chains)):
        if number in hung_on:
            hung_on.update(dict(search.chains[number]))
    return [number for number in search.chains if number in hung_on]


def write_chain(chain, renamed, steps, given):
    """Write the steps of a chain behind the others; the number of its last clause in the paper."""
    current = renamed[chain[0][0]]
    for number, pivot in chain[1:]:
        if pivot > 0:
            steps.append((renamed[number], current, pivot))
        else:
            steps.append((current, renamed[number], -pivot))
        current = given + len(steps) - 1
    return current


def wants_behind(search, clash):
    """The wants on which a clash hangs that no try has a part in, as a dict."""
    seen = {}
    for literal in search.held[clash]:
        seen[abs(literal)] = True
    found = {}
    for pivot in reversed(search.trail):
        if abs(pivot) in seen:
            reason = search.reasons[abs(pivot)]
            if reason is None:
                found[pivot] = True
            else:
                for literal in search.held[reason]:
                    seen[abs(literal)] = True
    return found

"""Machines' texts, read and written."""

from everguard.errors import BadMachine
from everguard.machines import Machine

LETTERS = "abcdefghijklmnopqrstuvwxyz"
LONGEST_NAME = 8

FORMS = {
    "switch": ("name",),
    "keep": ("name", "first"),
    "gate": ("name", "literal", "literal"),
    "next": ("name", "literal"),
    "never": ("name", "literal"),
    "some": ("name", "literal"),
}

FIRSTS = {"0": 0, "1": 1, "-": None}

MOST_SWITCHES = 12
MOST_KEEPERS = 16
MOST_GATES = 60
MOST_WISHES = 8


def read_machine(text):
    """The machine of a text; the first row at fault is refused with BadMachine."""
    machine = Machine([], {}, [], {}, {}, {})
    for place, words in rows_of(text):
        fault = fault_of(machine, words)
        if fault is not None:
            raise BadMachine(place, fault)
        take_row(machine, words)
    return machine


def rows_of(text):
    """(place, words) for each row that has words."""
    rows = []
    for place, row in enumerate(text.split("\n")):
        words = [word for word in row.split(" ") if word != ""]
        if len(words) > 0:
            rows.append((place, words))
    return rows


def fault_of(machine, words):
    """The first word due for a row behind the rows that the machine was read from, or None."""
    if not has_form(words):
        return "row"
    if is_twice(machine, words[0], words[1]):
        return "twice"
    if lacks_name(machine, words):
        return "name"
    if is_too_many(machine, words[0]):
        return "many"
    return None


def has_form(words):
    """Whether the words are those of one of the forms, whatever their names mean."""
    if words[0] not in FORMS:
        return False
    parts = FORMS[words[0]]
    if len(words) != len(parts) + 1:
        return False
    return all([fits(part, word) for part, word in zip(parts, words[1:])])


def fits(part, word):
    """Whether the word may stand at such a part of a form."""
    if part == "first":
        return word in FIRSTS
    if part == "literal":
        return is_literal(word)
    return is_name(word)


def is_name(word):
    """Whether the word is 1 to 8 letters a to z."""
    if len(word) < 1 or len(word) > LONGEST_NAME:
        return False
    return all([sign in LETTERS for sign in word])


def is_literal(word):
    """Whether the word is a literal, whatever its name means."""
    if word in ("0", "1"):
        return True
    return is_name(bare_name(word))


def bare_name(literal):
    """The literal without the sign that turns it."""
    if literal.startswith("~"):
        return literal[1:]
    return literal


def is_twice(machine, form, name):
    """Whether an earlier row has told already what this one tells."""
    if form == "next":
        return name in machine.nexts
    if form in ("never", "some"):
        return name in machine.nevers or name in machine.somes
    return is_told(machine, name)


def is_told(machine, name):
    """Whether the name is a switch's, a keeper's or a gate's."""
    if name in machine.switches or name in machine.keepers:
        return True
    return any([gate[0] == name for gate in machine.gates])


def lacks_name(machine, words):
    """Whether the row speaks of a name that no earlier row has told."""
    if words[0] == "next" and words[1] not in machine.keepers:
        return True
    return any([not is_known(machine, literal) for literal in literals_in(words)])


def literals_in(words):
    """The words of a row that are literals by its form."""
    parts = FORMS[words[0]]
    return [word for part, word in zip(parts, words[1:]) if part == "literal"]


def is_known(machine, literal):
    """Whether the literal's name was told; 0 and 1 have none."""
    if literal in ("0", "1"):
        return True
    return is_told(machine, bare_name(literal))


def is_too_many(machine, form):
    """Whether the machine has as many of these already as there may be."""
    if form == "switch":
        return len(machine.switches) >= MOST_SWITCHES
    if form == "keep":
        return len(machine.keepers) >= MOST_KEEPERS
    if form == "gate":
        return len(machine.gates) >= MOST_GATES
    if form == "next":
        return False
    return len(machine.nevers) + len(machine.somes) >= MOST_WISHES


def take_row(machine, words):
    """Put a row without fault behind the others of the machine that is being read."""
    name = words[1]
    if words[0] == "switch":
        machine.switches.append(name)
    elif words[0] == "keep":
        machine.keepers[name] = FIRSTS[words[2]]
    elif words[0] == "gate":
        machine.gates.append((name, words[2], words[3]))
    elif words[0] == "next":
        machine.nexts[name] = words[2]
    elif words[0] == "never":
        machine.nevers[name] = words[2]
    else:
        machine.somes[name] = words[2]


def machine_text(machine):
    """The text from which the machine is read again."""
    rows = [f"switch {name}" for name in machine.switches]
    for name, first in machine.keepers.items():
        rows.append(f"keep {name} " + first_word(first))
    for name, one, other in machine.gates:
        rows.append(f"gate {name} {one} {other}")
    rows.extend(literal_rows("next", machine.nexts))
    rows.extend(literal_rows("never", machine.nevers))
    rows.extend(literal_rows("some", machine.somes))
    return "\n".join(rows)


def first_word(first):
    """A first bit as its row has it."""
    return "-" if first is None else str(first)


def literal_rows(form, literals):
    """The rows of one form for a dict from names to literals."""
    return [f"{form} {name} {literal}" for name, literal in literals.items()]

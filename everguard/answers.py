"""Answers to all wishes of a machine's text, as a text."""

from everguard.machinetext import read_machine
from everguard.someday import some_answer
from everguard.wishes import each_wish


def answers(text):
    """The rows of an answer for each wish, nevers first; a text that is no machine's is refused with BadMachine."""
    machine = read_machine(text)
    found = each_wish(machine)
    for wish in machine.somes:
        found[wish] = some_answer(machine, wish)
    rows = []
    for wish, answer in found.items():
        rows.extend(answer_rows(wish, answer))
    return "".join([row + "\n" for row in rows])


def answer_rows(wish, answer):
    """The rows of one answer."""
    if answer[0] == "wall":
        return [f"wall {wish}"] + [" ".join(["piece"] + list(piece)) for piece in answer[1]]
    head = " ".join([answer[0], wish, bits_word(answer[1])] + [str(at) for at in answer[3:]])
    return [head] + ["step " + bits_word(told) for told in answer[2]]


def bits_word(bits):
    """Bits as one word."""
    return "-" if len(bits) == 0 else "".join([str(bit) for bit in bits])

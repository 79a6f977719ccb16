"""Answers' texts, read and checked."""

from everguard.checking import wall_shown
from everguard.errors import BadAnswer
from everguard.errors import NoWall
from everguard.machinetext import read_machine
from everguard.machinetext import rows_of
from everguard.pieces import is_piece
from everguard.running import comes_there
from everguard.someday import lasso_walks
from everguard.someday import shadow
from everguard.walls import wall_papers

FIGURES = "0123456789"
MOST_FIGURES = 6


def checked(text, told):
    """The wishes, nevers first, for which the rows of told have a right answer."""
    machine = read_machine(text)
    right = {}
    for answer in read_answers(machine, told):
        if answer.wish not in right and answer.is_right():
            right[answer.wish] = True
    return [wish for wish in list(machine.nevers) + list(machine.somes) if wish in right]


def read_answers(machine, told):
    """The answers of a text; the first row that is not so written is refused with BadAnswer."""
    shadows = {}
    found = []
    for place, words in rows_of(told):
        if len(found) > 0 and found[-1].is_further(words):
            found[-1].lengthen_by(words)
        else:
            refuse_unfinished(found)
            if not is_head(machine, words):
                raise BadAnswer(place)
            found.append(Answer(place, words, subject_of(machine, words, shadows)))
    refuse_unfinished(found)
    return found


def refuse_unfinished(found):
    """Refuse the last answer where a step should stand behind its first row and none does."""
    if len(found) > 0 and found[-1].word != "wall" and len(found[-1].parts) == 0:
        raise BadAnswer(found[-1].place)


def is_head(machine, words):
    """Whether the words are an answer's first row."""
    if words[0] == "wall":
        return len(words) == 2 and (words[1] in machine.nevers or words[1] in machine.somes)
    if words[0] == "row":
        return len(words) == 3 and words[1] in machine.nevers and is_bits(words[2], len(machine.keepers))
    if words[0] != "lasso" or len(words) != 4 or words[1] not in machine.somes:
        return False
    return is_bits(words[2], len(machine.keepers)) and is_count(words[3])


def subject_of(machine, words, shadows):
    """The machine of which the answer is: that of a wall for a wish of some is the shadow; shadows has those made."""
    wish = words[1]
    if words[0] != "wall" or wish in machine.nevers:
        return machine
    if wish not in shadows:
        shadows[wish] = shadow(machine, wish)
    return shadows[wish]


class Answer:
    """An answer: its first row, the machine of which it is, and the pieces or inputs of its further rows."""

    def __init__(self, place, words, machine):
        self.place = place
        self.word = words[0]
        self.wish = words[1]
        self.tail = words[2:]
        self.machine = machine
        self.parts = []

    def is_further(self, words):
        """Whether the words can be the next row of this answer."""
        if self.word == "wall":
            return words[0] == "piece" and is_piece(self.machine, words[1:])
        return words[0] == "step" and len(words) == 2 and is_bits(words[1], len(self.machine.switches))

    def lengthen_by(self, words):
        """Take the next row of this answer."""
        self.parts.append(tuple(words[1:]) if self.word == "wall" else bits_of(words[1]))

    def is_right(self):
        """Whether it is a right answer for its wish."""
        if self.word == "wall":
            return is_shown(self.machine, self.wish, self.parts)
        first = bits_of(self.tail[0])
        if self.word == "row":
            return comes_there(self.machine, self.wish, first, self.parts)
        return lasso_walks(self.machine, self.wish, first, self.parts, int(self.tail[1]))


def is_shown(machine, wish, wall):
    """Whether it is a wall, by its papers."""
    try:
        papers = wall_papers(machine, wish, wall)
    except NoWall:
        return False
    return wall_shown(machine, wish, wall, papers)


def is_bits(word, count):
    """Whether the word writes so many bits."""
    if count == 0:
        return word == "-"
    return len(word) == count and all([sign in "01" for sign in word])


def bits_of(word):
    """The bits that a word writes."""
    return tuple([int(sign) for sign in word if sign != "-"])


def is_count(word):
    """Whether the word is a number of one to six figures, without a needless 0 ahead."""
    if len(word) > MOST_FIGURES or not all([sign in FIGURES for sign in word]):
        return False
    return word == "0" or not word.startswith("0")

"""A console: lines that are run with a shelf, and their answers."""

from rootbags.errors import BagError, Missing
from rootbags.parts import is_inside
from rootbags.rationals import number_text
from rootbags.rounds import come_round
from rootbags.shelf import Shelf
from rootbags.terms import format_term

INVALID = "invalid"


def yes_or_no(truth):
    """Return the answer to a question."""
    return "yes" if truth else "no"


def command_answer(shelf, words):
    """Run a command."""
    shelf.apply(tuple(words))
    return "ok"


def undo_answer(shelf, words):
    """Undo the last step."""
    shelf.undo()
    return "ok"


def redo_answer(shelf, words):
    """Redo the step that was undone last."""
    shelf.redo()
    return "ok"


def names_answer(shelf, words):
    """Return the names."""
    if len(shelf) == 0:
        return "none"
    return " ".join(shelf.names())


def show_answer(shelf, words):
    """Return the canonical text of a name."""
    return format_term(shelf.term(words[1]))


def size_answer(shelf, words):
    """Return the size of a value."""
    return str(shelf.value(words[1]).size)


def bag_answer(shelf, words):
    """Return the coefficients of a value."""
    return ", ".join([number_text(number) for number in shelf.value(words[1]).coefficients()])


def round_answer(shelf, words):
    """Return whether a value comes round."""
    return yes_or_no(come_round(shelf.value(words[1])) == ("round",))


def inside_answer(shelf, words):
    """Return whether one value is inside another one."""
    one = shelf.value(words[1])
    other = shelf.value(words[2])
    return yes_or_no(is_inside(one, other))


ACTIONS = {
    "drop": command_answer,
    "rename": command_answer,
    "undo": undo_answer,
    "redo": redo_answer,
    "names": names_answer,
    "show": show_answer,
    "size": size_answer,
    "bag": bag_answer,
    "round": round_answer,
    "inside": inside_answer,
}
# How many words each line has.
LENGTHS = {
    "drop": 2,
    "rename": 3,
    "undo": 1,
    "redo": 1,
    "names": 1,
    "show": 2,
    "size": 2,
    "bag": 2,
    "round": 2,
    "inside": 3,
}


def plain_answer(shelf, line):
    """Return the answer to a line, or raise the error of what it does."""
    word, space, rest = line.partition(" ")
    if word in ("define", "replace"):
        name, gap, text = rest.partition(" ")
        if name == "" or gap == "":
            return INVALID
        return command_answer(shelf, [word, name, text])
    words = line.split(" ")
    if "" in words or LENGTHS.get(word, 0) != len(words):
        return INVALID
    action = ACTIONS[word]
    return action(shelf, words)


def answer_to(shelf, line):
    """Return the answer to a line."""
    try:
        return plain_answer(shelf, line)
    except (BagError, Missing) as problem:
        return "error " + problem.code


class Console:
    """A console that uses a shelf."""

    def __init__(self, *, shelf=None):
        self.held = Shelf() if shelf is None else shelf
        self.answers = []

    def run(self, line):
        """Run a line and return its answer."""
        answer = answer_to(self.held, line)
        self.answers.append((line, answer))
        return answer

    def shelf(self):
        """Return the shelf."""
        return self.held

    def log(self):
        """Return the list of the pairs (line, answer) of all lines."""
        return list(self.answers)

    def __len__(self):
        return len(self.answers)

"""Shelves: names with terms, and a history of steps."""

from rootbags.commands import after_command, check_commands, check_known, same_names, users_of
from rootbags.errors import BagError, EmptyHistory, InvalidLimit, Missing
from rootbags.evaluation import evaluate
from rootbags.terms import format_term, names_in, node_count


def table_line(name, tree):
    """Return the line of a name in the table."""
    return f"{name:<8}|{node_count(tree):>3}|{format_term(tree)}"


def shelf_of(trees):
    """Return a shelf with these names and trees, without steps."""
    shelf = Shelf()
    shelf.trees = dict(trees)
    return shelf


class Shelf:
    """Names with trees. The dicts of trees, of which the steps keep some, are replaced and never changed."""

    MOST = 12

    def __init__(self):
        self.trees = {}
        self.past = []
        self.future = []
        self.bags = {}
        self.counted = 0
        self.space = Shelf.MOST

    def change_to(self, trees):
        """Replace the trees, and keep the values of those names for which all is as before."""
        same = same_names(self.trees, trees)
        self.bags = {name: self.bags[name] for name in same if name in self.bags}
        self.trees = trees

    def make_step(self, commands):
        """Run a list of commands as one step."""
        check_commands(commands)
        trees = self.trees
        for command in commands:
            trees = after_command(trees, command, self.space)
        self.past.append(self.trees)
        self.future = []
        self.change_to(trees)

    def apply(self, command):
        """Run a command as one step."""
        self.make_step([command])

    def apply_all(self, commands):
        """Run a list of commands as one step."""
        self.make_step(commands)

    def undo(self):
        """Undo the last step."""
        if len(self.past) == 0:
            raise EmptyHistory()
        self.future.append(self.trees)
        self.change_to(self.past.pop())

    def redo(self):
        """Redo the step that was undone last."""
        if len(self.future) == 0:
            raise EmptyHistory()
        self.past.append(self.trees)
        self.change_to(self.future.pop())

    def history(self):
        """Return the pair of the numbers of steps that can be undone and redone."""
        return (len(self.past), len(self.future))

    @property
    def room(self):
        """How many names the shelf may have."""
        return self.space

    @room.setter
    def room(self, value):
        self.set_room(value)

    def set_room(self, value):
        """Change how many names the shelf may have."""
        if not 1 <= value <= Shelf.MOST:
            raise InvalidLimit(value)
        self.space = value

    def names(self):
        """Return the ascending list of the names."""
        return sorted(list(self.trees))

    def term(self, name):
        """Return the tree of a name."""
        check_known(self.trees, name)
        return self.trees[name]

    def uses(self, name):
        """Return the ascending list of the names in the tree of a name."""
        return names_in(self.term(name))

    def users(self, name):
        """Return the ascending list of the names whose trees contain a name."""
        check_known(self.trees, name)
        return users_of(self.trees, name)

    def value(self, name):
        """Return the value of a name."""
        tree = self.term(name)
        if name not in self.bags:
            bags = {}
            for used in names_in(tree):
                bags[used] = self.value(used)
            self.bags[name] = evaluate(tree, bags)
            self.counted = self.counted + 1
        return self.bags[name]

    def kept(self):
        """Return the ascending list of the names whose values are kept."""
        return sorted(list(self.bags))

    @property
    def computed(self):
        """How many computations of values raised no error."""
        return self.counted

    def table(self):
        """Return a list with a line for each name, ascending."""
        return [table_line(name, self.trees[name]) for name in self.names()]

    def twin(self):
        """Return an independent copy, which is a plain shelf."""
        found = shelf_of(self.trees)
        found.past = list(self.past)
        found.future = list(self.future)
        found.bags = dict(self.bags)
        found.counted = self.counted
        found.space = self.space
        return found

    def __len__(self):
        return len(self.trees)

    def __eq__(self, other):
        return isinstance(other, Shelf) and self.trees == other.trees

    def __contains__(self, x):
        return x in self.trees

    def __repr__(self):
        return f"Shelf({len(self.trees)} names)"


class LoggedShelf(Shelf):
    """A shelf that keeps a log of its steps."""

    def __init__(self):
        Shelf.__init__(self)
        self.done = []
        self.undone = []
        self.refusals = 0

    def make_logged_step(self, commands):
        """Run a list of commands as one step, and put it into the log."""
        try:
            self.make_step(commands)
        except (BagError, Missing):
            self.refusals = self.refusals + 1
            raise
        self.done.append(tuple(commands))
        self.undone = []

    def apply(self, command):
        """Run a command as one step."""
        self.make_logged_step([command])

    def apply_all(self, commands):
        """Run a list of commands as one step."""
        self.make_logged_step(commands)

    def undo(self):
        """Undo the last step."""
        super().undo()
        self.undone.append(self.done.pop())

    def redo(self):
        """Redo the step that was undone last."""
        super().redo()
        self.done.append(self.undone.pop())

    def log(self):
        """Return the list of the steps that are not undone, each as a tuple of its commands."""
        return list(self.done)

    @property
    def refused(self):
        """How many calls of apply and apply_all raised an error."""
        return self.refusals

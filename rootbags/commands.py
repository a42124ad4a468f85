"""The commands of a shelf. A dict from names to trees stands for its names; no function changes such a dict."""

from rootbags.errors import CircularName, DuplicateName, InvalidCommand, InvalidName
from rootbags.errors import LimitReached, NameInUse, UnknownName
from rootbags.terms import names_in, parse_term
from rootbags.tokens import is_name
from rootbags.trees import with_name

LENGTHS = {"define": 3, "replace": 3, "drop": 2, "rename": 3}


def check_commands(commands):
    """Raise InvalidCommand for the first tuple that has not the form of a command."""
    for position, command in enumerate(commands):
        if len(command) == 0 or LENGTHS.get(command[0], 0) != len(command):
            raise InvalidCommand(position)


def check_known(trees, name):
    """Raise UnknownName if there is no such name."""
    if name not in trees:
        raise UnknownName(name)


def check_new(trees, name):
    """Raise an error if a name cannot be a new one."""
    if not is_name(name):
        raise InvalidName(name)
    if name in trees:
        raise DuplicateName(name)


def users_of(trees, name):
    """Return the ascending list of the names whose trees contain a name."""
    return sorted([user for user in trees if name in names_in(trees[user])])


def all_uses(trees, name):
    """Return the names that a name uses directly or not; trees may lack some of them."""
    found = []
    waiting = [name]
    while waiting != []:
        user = waiting.pop()
        used = names_in(trees[user]) if user in trees else []
        fresh = [other for other in used if other not in found]
        found = found + fresh
        waiting = waiting + fresh
    return found


def same_names(before, after):
    """Return the names that have equal trees before and after, and so have all names that they use directly or not."""
    found = [name for name in before if name in after and before[name] == after[name]]
    many = len(before) + 1
    while len(found) < many:
        many = len(found)
        found = [name for name in found if all([used in found for used in names_in(after[name])])]
    return found


def tree_for(trees, text):
    """Return the tree of a text all of whose names are there."""
    tree = parse_term(text)
    for name in names_in(tree):
        check_known(trees, name)
    return tree


def defined(trees, name, text, room):
    """Return the trees with another name."""
    check_new(trees, name)
    if len(trees) >= room:
        raise LimitReached(room)
    return {**trees, name: tree_for(trees, text)}


def replaced(trees, name, text):
    """Return the trees with another one for a name."""
    check_known(trees, name)
    found = {**trees, name: tree_for(trees, text)}
    if name in all_uses(found, name):
        raise CircularName(name)
    return found


def dropped(trees, name):
    """Return the trees without a name."""
    check_known(trees, name)
    users = users_of(trees, name)
    if users != []:
        raise NameInUse(users[0])
    return {other: trees[other] for other in trees if other != name}


def renamed(trees, old, new):
    """Return the trees with another name instead of a name, also in all trees."""
    check_known(trees, old)
    check_new(trees, new)
    return {new if name == old else name: with_name(trees[name], old, new) for name in trees}


def after_command(trees, command, room):
    """Return the trees behind a command that has the form of one."""
    word = command[0]
    if word == "define":
        return defined(trees, command[1], command[2], room)
    if word == "replace":
        return replaced(trees, command[1], command[2])
    if word == "drop":
        return dropped(trees, command[1])
    return renamed(trees, command[1], command[2])

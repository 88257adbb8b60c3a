"""Rules and books, and the worlds that keep them."""

from conceptworlds.concepts import collect_words, is_concept, is_word, need_role, told_words
from conceptworlds.errors import BadBook, BadWorld
from conceptworlds.graphs import lies_in
from conceptworlds.roles import Roles, close_rows, list_edges
from conceptworlds.worlds import World, need_world


def is_rule(thing):
    """Whether a value is a rule."""
    if not isinstance(thing, tuple) or not thing or not isinstance(thing[0], str):
        return False
    if thing[0] == "within":
        return len(thing) == 3 and is_concept(thing[1]) and is_concept(thing[2])
    if thing[0] == "below":
        return len(thing) == 3 and is_word(thing[1]) and is_word(thing[2])
    return thing[0] in ("passes", "itself") and len(thing) == 2 and is_word(thing[1])


def is_book(thing):
    """Whether a value is a book."""
    if not isinstance(thing, (list, tuple)):
        return False
    for rule in thing:
        if not is_rule(rule):
            return False
    return True


def need_book(thing):
    """Refuses what is no book, with the index of the first item that is no rule."""
    if not isinstance(thing, (list, tuple)):
        raise BadBook(None)
    for index, rule in enumerate(thing):
        if not is_rule(rule):
            raise BadBook(index)


def role_rules(book):
    """The role rules of a book, in their order."""
    return [rule for rule in book if rule[0] != "within"]


def book_words(book):
    """The names and roles in the rules of what is known to be a book."""
    names, roles = {}, {}
    for rule in book:
        for part in rule[1:]:
            if rule[0] == "within":
                collect_words(part, names, roles)
            else:
                roles[part] = True
    return told_words(names, roles)


def words_of(book):
    """The names and roles in the rules of a book, as told words."""
    need_book(book)
    return book_words(book)


def under(book, role, other):
    """Whether a role is under another one by the book."""
    need_book(book)
    need_role(role)
    need_role(other)
    return other in Roles(book).over(role)


def _keeps_passing(rows):
    """Whether the edges of a role, as a dict from things to sets of things, pass."""
    for targets in rows.values():
        for thing, more in rows.items():
            if targets >> thing & 1 and not lies_in(more, targets):
                return False
    return True


def keeps(graph, rule):
    """Whether a world keeps a rule."""
    if rule[0] == "within":
        return lies_in(graph.holding(rule[1]), graph.holding(rule[2]))
    rows = graph.ahead.get(rule[1], {})
    if rule[0] == "passes":
        return _keeps_passing(rows)
    if rule[0] == "itself":
        loops = [thing for thing, targets in rows.items() if targets >> thing & 1]
        return len(loops) == graph.everything.bit_length()
    for thing, targets in rows.items():
        if not lies_in(targets, graph.targets(rule[2], thing)):
            return False
    return True


def broken_rules(book, world):
    """The ascending list of the indices of the rules that a world does not keep."""
    need_book(book)
    need_world(world)
    return [index for index, rule in enumerate(book) if not keeps(world.graph(), rule)]


def keeps_all(graph, book):
    """Whether a world keeps all rules of a book."""
    for rule in book:
        if not keeps(graph, rule):
            return False
    return True


def closed(book, world):
    """The world with the fewest edges added so that it keeps the role rules of the book."""
    need_book(book)
    need_world(world)
    rows = close_rows(Roles(book), world.graph().ahead, len(world))
    return World(world.names(), list_edges(rows))


def need_keeping(book, world):
    """Refuses what is no world, or does not keep what is known to be a book."""
    need_world(world)
    if not keeps_all(world.graph(), book):
        raise BadWorld("the world does not keep the book")

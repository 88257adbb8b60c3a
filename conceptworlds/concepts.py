"""Words, told words, and concepts: what they are, and their parts, sizes, depths and texts."""

from conceptworlds.errors import BadConcept, BadWords

NO_WORDS = ("all", "none", "some")
LONGEST = 12
DEEPEST = 100


def is_word(thing):
    """Whether a value is a word."""
    if not isinstance(thing, str) or not 1 <= len(thing) <= LONGEST or thing in NO_WORDS:
        return False
    for sign in thing:
        if not "a" <= sign <= "z":
            return False
    return True


def is_concept(thing):
    """Whether a value is a concept."""
    return _is_nested(thing, DEEPEST)


def _is_nested(thing, levels):
    """Whether a value is a concept whose tuples are nested at most so many levels deep."""
    if isinstance(thing, str):
        return thing in ("all", "none") or is_word(thing)
    if not isinstance(thing, tuple) or levels == 0 or len(thing) < 3 or not isinstance(thing[0], str):
        return False
    if thing[0] == "some":
        return len(thing) == 3 and is_word(thing[1]) and _is_nested(thing[2], levels - 1)
    if thing[0] != "and":
        return False
    for part in thing[1:]:
        if not _is_nested(part, levels - 1):
            return False
    return True


def need_concept(thing):
    """Refuses what is no concept."""
    if not is_concept(thing):
        raise BadConcept("not a concept")


def need_concepts(things):
    """Refuses values of which one is no concept."""
    for thing in things:
        need_concept(thing)


def is_ascending(things):
    """Whether each of some integers, strings or tuples of these is less than the next one."""
    for at in range(1, len(things)):
        if not things[at - 1] < things[at]:
            return False
    return True


def are_words(thing):
    """Whether a value is an ascending tuple of words."""
    if not isinstance(thing, tuple):
        return False
    for word in thing:
        if not is_word(word):
            return False
    return is_ascending(thing)


def is_told(thing):
    """Whether a value is told words."""
    return isinstance(thing, tuple) and len(thing) == 2 and are_words(thing[0]) and are_words(thing[1])


def need_words(thing):
    """Refuses what is not told words."""
    if not is_told(thing):
        raise BadWords("not told words")


def need_role(thing):
    """Refuses what is no role."""
    if not is_word(thing):
        raise BadWords("not a role")


def inner(concept):
    """The concepts that stand directly in a concept, as a tuple."""
    if isinstance(concept, str):
        return ()
    return concept[2:] if concept[0] == "some" else concept[1:]


def gather(concept, found):
    """Puts all parts of a concept into a dict, by their texts; returns the text of the concept itself."""
    told = concept
    if not isinstance(concept, str):
        pieces = []
        for part in inner(concept):
            piece = gather(part, found)
            pieces.append(f"({piece})" if part[0] == "and" else piece)
        told = f"some {concept[1]} {pieces[0]}" if concept[0] == "some" else " & ".join(pieces)
    found[told] = concept
    return told


def text_of(concept):
    """The text of what is known to be a concept."""
    return gather(concept, {})


def depth_of(concept):
    """The depth of what is known to be a concept."""
    deepest = 0
    for part in inner(concept):
        deepest = max(deepest, depth_of(part))
    return deepest + 1 if not isinstance(concept, str) and concept[0] == "some" else deepest


def size_of(concept):
    """The size of what is known to be a concept."""
    if isinstance(concept, str):
        return 0 if concept in ("all", "none") else 1
    total = 1 if concept[0] == "some" else 0
    for part in inner(concept):
        total = total + size_of(part)
    return total


def collect_words(concept, names, roles):
    """Puts the names and the roles of a concept into two dicts, as their keys."""
    if isinstance(concept, str):
        if concept not in ("all", "none"):
            names[concept] = True
        return
    if concept[0] == "some":
        roles[concept[1]] = True
    for part in inner(concept):
        collect_words(part, names, roles)


def told_words(names, roles):
    """The told words of the keys of two dicts."""
    return tuple(sorted(names)), tuple(sorted(roles))


def is_in_words(concept, words):
    """Whether a concept is in told words."""
    names, roles = {}, {}
    collect_words(concept, names, roles)
    told_names, told_roles = words
    strange = [name for name in names if name not in told_names]
    return not strange and not [role for role in roles if role not in told_roles]


def is_without_none(concept):
    """Whether none is not one of the parts of a concept."""
    if concept == "none":
        return False
    for part in inner(concept):
        if not is_without_none(part):
            return False
    return True


def conjoin(concepts):
    """The and of a list of concepts: all, if there are none, and the concept itself, if there is one."""
    if not concepts:
        return "all"
    return concepts[0] if len(concepts) == 1 else ("and", *concepts)


def parts(concept):
    """The ascending list of the parts of a concept."""
    need_concept(concept)
    found = {}
    gather(concept, found)
    return [found[told] for told in sorted(found)]


def size(concept):
    """The number of occurrences of names and roles in a concept."""
    need_concept(concept)
    return size_of(concept)


def depth(concept):
    """How deep the roles of a concept are nested."""
    need_concept(concept)
    return depth_of(concept)


def text(concept):
    """The text of a concept."""
    need_concept(concept)
    return text_of(concept)


def words_in(*concepts):
    """All names and all roles in some concepts, as told words."""
    need_concepts(concepts)
    names, roles = {}, {}
    for concept in concepts:
        collect_words(concept, names, roles)
    return told_words(names, roles)

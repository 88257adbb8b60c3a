"""What can be seen from the things of a world, in told words, at any depth, as concepts and as lists of these."""

from conceptworlds.concepts import is_in_words
from conceptworlds.datakinds import DataKinds
from conceptworlds.explaining import Explaining


def are_told(concepts, words):
    """Whether some concepts are all in told words."""
    return not [concept for concept in concepts if not is_in_words(concept, words)]


def are_steady(table, part, concepts):
    """Whether concepts, one for each thing, have the kinds, by a table, of the steps of the things along the list."""
    if len(concepts) != len(part):
        return False
    kinds, found = [table.of_concept(concept) for concept in concepts], []
    for row in part.names():
        names = table.of_term("all")
        for name in row:
            names = names | table.of_name(name)
        found.append(names)
    for thing, role, end in part.edges():
        found[thing] = found[thing] | table.lift(role, kinds[end])
    return [table.close(mask) for mask in found] == kinds


class Seeing:
    """What can be seen from the things of a world with only told names and edges, as kinds by a table, at any depth."""

    def __init__(self, table, part):
        self._kinds = DataKinds(table, part)
        self._explaining = Explaining(self._kinds)

    def depth_of(self, thing, goal):
        """The least depth at which a thing is seen to be in some terms, or None."""
        return self._kinds.depth_of(thing, goal)

    def concept_of(self, thing, goal):
        """A concept of the least depth in which a thing is and that lies within some terms."""
        return self._explaining.explain(thing, goal)

    def steady_concepts(self):
        """For each thing, a concept with the kind of all that can be seen from it."""
        things = range(len(self._kinds.data))
        return [self.concept_of(thing, self._kinds.kind(thing)) for thing in things]

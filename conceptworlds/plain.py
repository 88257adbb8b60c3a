"""The plain order of concepts: by the empty book."""

from conceptworlds.concepts import is_without_none, need_concept
from conceptworlds.trees import are_images, find_images, need_without_none, nodes_of, world_of
from conceptworlds.worlds import World, is_thing


def tree(concept):
    """The nodes of the tree of a concept without none: triples of a parent, a role, and names."""
    need_without_none(concept)
    return nodes_of(concept)


def _need_both(concept, other):
    """Refuses what is not two concepts."""
    need_concept(concept)
    need_concept(other)


class Mapped:
    """A map from the tree of the second of two concepts to that of the first one."""

    def __init__(self, nodes):
        self.nodes = list(nodes)

    def __eq__(self, other):
        return isinstance(other, Mapped) and self.nodes == other.nodes

    def shows(self, concept, other):
        """Whether the images are such a map; there are none, if the first concept is not without none."""
        _need_both(concept, other)
        if not is_without_none(concept):
            return not self.nodes
        return is_without_none(other) and are_images(self.nodes, nodes_of(other), nodes_of(concept))


class Unmapped:
    """A world with a thing that is in the first of two concepts and not in the second one."""

    def __init__(self, world, thing):
        self.world = world
        self.thing = thing

    def __eq__(self, other):
        return isinstance(other, Unmapped) and self.world == other.world and self.thing == other.thing

    def shows(self, concept, other):
        """Whether the thing of the world is in the first concept, and not in the second one."""
        _need_both(concept, other)
        if not isinstance(self.world, World) or not is_thing(self.thing, len(self.world)):
            return False
        graph = self.world.graph()
        return bool(graph.holding(concept) >> self.thing & 1) and not graph.holding(other) >> self.thing & 1


def _images(concept, other):
    """The images for two concepts of which the first one lies plainly within the other one, otherwise None."""
    if not is_without_none(concept):
        return []
    return find_images(nodes_of(other), nodes_of(concept)) if is_without_none(other) else None


def judge_plain(concept, other):
    """A Mapped, if the first concept lies plainly within the other one, and otherwise an Unmapped."""
    _need_both(concept, other)
    images = _images(concept, other)
    return Mapped(images) if images is not None else Unmapped(world_of(nodes_of(concept)), 0)


def plainly_within(concept, other):
    """Whether the first concept lies plainly within the other one."""
    _need_both(concept, other)
    return _images(concept, other) is not None

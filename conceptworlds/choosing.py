"""The choices of images for the holes of a pattern in the tree of a goal."""

from conceptworlds.graphs import bits
from conceptworlds.trees import image_masks, nodes_of


def _ends_of(nodes):
    """For each node of a tree, a dict from roles to the sets of its children by them."""
    ends = [{} for _ in nodes]
    for at, (parent, role, _) in enumerate(nodes):
        if parent is not None:
            ends[parent][role] = ends[parent].get(role, 0) | 1 << at
    return ends


class Choices:
    """The lists of images of the holes of a pattern, by maps of its tree to the tree of a goal.

    Different images of a node have different nodes below them. So the lists for the holes in a node and below it are,
    for each image of it, those that are made of one list for each of its children with holes.
    """

    def __init__(self, pattern, hole, goal):
        self._goal = nodes_of(goal)
        told = nodes_of(pattern)
        self._holes = [at for at, (_, _, row) in enumerate(told) if hole in row]
        self._nodes = []
        for parent, role, row in told:
            self._nodes.append((parent, role, tuple([name for name in row if name != hole])))
        self._images = self._find_images()
        self._children = self._find_children()

    def _find_images(self):
        """For each node of the pattern, the ascending list of the images that it has by some map."""
        masks, ends = image_masks(self._nodes, self._goal), _ends_of(self._goal)
        found = [masks[0] & 1]
        for at in range(1, len(self._nodes)):
            parent, role, _ = self._nodes[at]
            reached = 0
            for image in bits(found[parent]):
                reached = reached | ends[image].get(role, 0)
            found.append(reached & masks[at])
        return [bits(mask) for mask in found]

    def _find_children(self):
        """For each node of the pattern, the list of its children in which there are holes, or below which."""
        has_hole = {at: True for at in self._holes}
        for at in reversed(range(1, len(self._nodes))):
            if at in has_hole:
                has_hole[self._nodes[at][0]] = True
        children = [[] for _ in self._nodes]
        for at in range(1, len(self._nodes)):
            if at in has_hole:
                children[self._nodes[at][0]].append(at)
        return children

    def _images_below(self, child, image):
        """The images of a child that are children of an image of its parent."""
        return [end for end in self._images[child] if self._goal[end][0] == image]

    def many(self):
        """How many choices there are."""
        counts = [{} for _ in self._nodes]
        for at in reversed(range(len(self._nodes))):
            for image in self._images[at]:
                total = 1
                for child in self._children[at]:
                    total = total * sum([counts[child][end] for end in self._images_below(child, image)])
                counts[at][image] = total
        return sum(list(counts[0].values()))

    def all_choices(self):
        """The list of all choices, each as a tuple of images."""
        rows = [{} for _ in self._nodes]
        for at in reversed(range(len(self._nodes))):
            for image in self._images[at]:
                found = [(image,)] if at in self._holes else [()]
                for child in self._children[at]:
                    below = [way for end in self._images_below(child, image) for way in rows[child][end]]
                    found = [(*way, *more) for way in found for more in below]
                rows[at][image] = found
        return [way for found in rows[0].values() for way in found]

    def forms_of_goal(self, forms):
        """For each node of the goal, the number of the form of what is told there."""
        children, found = [[] for _ in self._goal], [0 for _ in self._goal]
        for at in reversed(range(len(self._goal))):
            parent, role, row = self._goal[at]
            found[at] = forms.make(row, children[at])
            if parent is not None:
                children[parent].append((role, found[at]))
        return found

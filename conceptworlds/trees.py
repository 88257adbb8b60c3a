"""The trees of concepts without none, and maps between them."""

from conceptworlds.concepts import conjoin, is_without_none, need_concept
from conceptworlds.errors import BadConcept
from conceptworlds.graphs import bits, mask_of
from conceptworlds.worlds import World, is_thing


def need_without_none(thing):
    """Refuses what is not a concept without none."""
    need_concept(thing)
    if not is_without_none(thing):
        raise BadConcept("not a concept without none")


def _grow(concept, node, rows, nodes):
    """Puts what a concept says of a node into the rows of names of the nodes, and into the list of nodes."""
    if isinstance(concept, str):
        if concept != "all":
            rows[node][concept] = True
    elif concept[0] == "some":
        nodes.append((node, concept[1]))
        rows.append({})
        _grow(concept[2], len(nodes) - 1, rows, nodes)
    else:
        for part in concept[1:]:
            _grow(part, node, rows, nodes)


def nodes_of(concept):
    """The nodes of the tree of a concept without none, as triples of a parent, a role and names."""
    rows, nodes = [{}], [(None, None)]
    _grow(concept, 0, rows, nodes)
    return [(parent, role, tuple(sorted(row))) for (parent, role), row in zip(nodes, rows)]


def world_of(nodes):
    """The tree of a concept as a world, in which the root has the number 0."""
    edges = [(parent, role, at) for at, (parent, role, _) in enumerate(nodes) if parent is not None]
    return World([row for _, _, row in nodes], sorted(edges))


def concept_of(nodes):
    """The concept of a tree, or of what is left of it where nodes are None, with names before somes."""
    pieces = [[] if node is None else list(node[2]) for node in nodes]
    for at in reversed(range(1, len(nodes))):
        if nodes[at] is not None:
            parent, role, row = nodes[at]
            names, somes = pieces[at][:len(row)], pieces[at][len(row):]
            pieces[parent].append(("some", role, conjoin([*names, *somes[::-1]])))
    row = nodes[0][2]
    return conjoin([*row, *pieces[0][len(row):][::-1]])


def _places_of(nodes):
    """For each node of a tree, the pair of its depth and of the role by which it is a child."""
    places = []
    for parent, role, _ in nodes:
        places.append((0 if parent is None else places[parent][0] + 1, role))
    return places


def image_masks(nodes, others):
    """For each node of a tree, the set of the nodes of another tree that can be its image, by all that is below it."""
    named, placed = {}, {}
    for at, place in enumerate(_places_of(others)):
        placed[place] = placed.get(place, 0) | 1 << at
        for name in others[at][2]:
            named[name] = named.get(name, 0) | 1 << at
    masks = [placed.get(place, 0) for place in _places_of(nodes)]
    for at in reversed(range(len(nodes))):
        parent, _, row = nodes[at]
        for name in row:
            masks[at] = masks[at] & named.get(name, 0)
        if parent is not None:
            masks[parent] = masks[parent] & mask_of([others[image][0] for image in bits(masks[at])])
    return masks


def find_images(nodes, others):
    """For each node of a tree a node of another tree, its image, that of the root the root; None, if there are none."""
    masks = image_masks(nodes, others)
    if not masks[0] & 1:
        return None
    ends = [{} for _ in others]
    for at, (parent, role, _) in enumerate(others):
        if parent is not None:
            ends[parent][role] = ends[parent].get(role, 0) | 1 << at
    images = [0]
    for at in range(1, len(nodes)):
        parent, role, _ = nodes[at]
        images.append(bits(ends[images[parent]][role] & masks[at])[0])
    return images


def are_images(images, nodes, others):
    """Whether each node of a tree has, as an image, a node of another tree, the root the root."""
    if len(images) != len(nodes):
        return False
    for at, (parent, role, row) in enumerate(nodes):
        if not is_thing(images[at], len(others)):
            return False
        above = None if parent is None else images[parent]
        if others[images[at]][:2] != (above, role) or [name for name in row if name not in others[images[at]][2]]:
            return False
    return True

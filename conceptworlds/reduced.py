"""Reduced forms, and plain common concepts."""

from conceptworlds.concepts import is_without_none, need_concept, need_concepts
from conceptworlds.errors import BadConcept, TooLarge
from conceptworlds.forms import Forms

MOST_NODES = 2000


def reduced(concept):
    """The reduced form of a concept."""
    need_concept(concept)
    if not is_without_none(concept):
        return "none"
    forms = Forms()
    return forms.concepts[forms.of(concept)]


def _need_small(forms, numbers):
    """Refuses forms whose trees have a common tree with too many nodes."""
    many, waiting = 1, [numbers]
    while waiting and many <= MOST_NODES:
        chosen = waiting.pop()
        many = many + forms.many_choices(chosen)
        if many <= MOST_NODES:
            waiting.extend([choice for _, choice in forms.choices(chosen)])
    if many > MOST_NODES:
        raise TooLarge("the common tree has more than 2000 nodes")


def plain_common(*concepts):
    """The plain common concept of one or more concepts."""
    if not concepts:
        raise BadConcept("no concepts")
    need_concepts(concepts)
    told = [concept for concept in concepts if is_without_none(concept)]
    if not told:
        return "none"
    forms = Forms()
    numbers = [forms.of(concept) for concept in told]
    _need_small(forms, numbers)
    return forms.concepts[forms.common(numbers)]

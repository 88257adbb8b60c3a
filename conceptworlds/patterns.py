"""Patterns: what can be put in the place of a name, so that a concept becomes plainly equal to another one."""

from conceptworlds.choosing import Choices
from conceptworlds.concepts import collect_words, inner, is_concept, is_without_none, is_word, need_concept
from conceptworlds.errors import BadConcept, BadWords, TooLarge
from conceptworlds.forms import Forms

MOST_CHOICES = 500


def _has_name(concept, name):
    """Whether a name occurs in a concept as a name."""
    names = {}
    collect_words(concept, names, {})
    return name in names


def _need_question(pattern, hole, goal):
    """Refuses what is not a pattern, its hole, and a goal."""
    if not is_word(hole):
        raise BadWords("the hole is not a word")
    if not is_concept(pattern) or not is_without_none(pattern) or not _has_name(pattern, hole):
        raise BadConcept("not a pattern without none in which the hole occurs")
    if not is_concept(goal) or not is_without_none(goal) or _has_name(goal, hole):
        raise BadConcept("not a goal without none in which the hole does not occur")


def _put_form(forms, concept, hole, form):
    """The number of the reduced form of a concept, with a form in the place of a name."""
    names, children = [], []
    _gather(forms, concept, (hole, form), names, children)
    return forms.make(names, children)


def _gather(forms, concept, filling, names, children):
    """Puts the names and the somes of a concept that are in no some into two lists, with a filled hole."""
    hole, form = filling
    if concept == hole:
        names.extend(forms.rows[form])
        children.extend(forms.children[form])
    elif isinstance(concept, str):
        if concept != "all":
            names.append(concept)
    elif concept[0] == "some":
        children.append((concept[1], _put_form(forms, concept[2], hole, form)))
    else:
        for part in inner(concept):
            _gather(forms, part, filling, names, children)


def _common_form(forms, numbers):
    """The number of the plain common concept of some forms.

    Those that lie within another one of them change nothing, and are left out.
    """
    found = None
    for number in numbers:
        if not [other for other in numbers if other != number and forms.is_within(number, other)]:
            found = number if found is None else forms.common([found, number])
    return found


def fillings(pattern, hole, goal):
    """The ascending list of the reduced forms of the least fillings of a pattern for a goal.

    For each filling there is a choice, so that the parts of the goal at its images all lie within the filling. What
    these have in common is the least concept for which this is so.
    """
    _need_question(pattern, hole, goal)
    choices = Choices(pattern, hole, goal)
    if choices.many() > MOST_CHOICES:
        raise TooLarge("there are more than 500 choices")
    forms = Forms()
    numbers, wanted = choices.forms_of_goal(forms), forms.of(goal)
    sets = {}
    for choice in choices.all_choices():
        sets[tuple(sorted(set([numbers[image] for image in choice])))] = True
    common = {_common_form(forms, known): True for known in sets}
    found = [number for number in common if _put_form(forms, pattern, hole, number) == wanted]
    least = [number for number in found if not _has_lower(forms, found, number)]
    order = sorted([(forms.texts[number], number) for number in least])
    return [forms.concepts[number] for _, number in order]


def _has_lower(forms, numbers, form):
    """Whether another one of some forms lies plainly within a form."""
    for number in numbers:
        if number != form and forms.is_within(number, form):
            return True
    return False


def fills(pattern, hole, goal, concept):
    """Whether a concept is a filling of a pattern for a goal."""
    _need_question(pattern, hole, goal)
    need_concept(concept)
    if not is_without_none(concept):
        return False
    forms = Forms()
    return _put_form(forms, pattern, hole, forms.of(concept)) == forms.of(goal)

"""Weaker rules: how much of a rule a consequence needs."""

from conceptworlds.books import need_book
from conceptworlds.concepts import is_without_none, need_concept
from conceptworlds.deciding import lies_within
from conceptworlds.errors import BadIndex, NotFollows, TooLarge
from conceptworlds.following import Fails, Follows, judge
from conceptworlds.forms import Forms, numbers_apart
from conceptworlds.rising import Above
from conceptworlds.worlds import is_thing

MOST_WEAKER = 100


def _changed(book, rule, concept):
    """The book in which a rule has another second concept."""
    return [*book[:rule], ("within", book[rule][1], concept), *book[rule + 1:]]


def _need_index(book, rule):
    """Refuses what is not the index of a concept rule whose second concept is without none."""
    if not is_thing(rule, len(book)) or book[rule][0] != "within" or not is_without_none(book[rule][2]):
        raise BadIndex("not the index of a concept rule whose second concept is without none")


def _need_question(book, rule, concept, other):
    """Refuses what is not a book, a rule of it, and two concepts of which the first lies within the other one.

    Returns the forms, and the numbers of all weaker concepts.
    """
    need_book(book)
    _need_index(book, rule)
    need_concept(concept)
    need_concept(other)
    if not lies_within(book, concept, other):
        raise NotFollows("the first concept does not lie within the other one")
    forms = Forms()
    found = Above(forms, MOST_WEAKER).of(forms.of(book[rule][2]))
    if found is None:
        raise TooLarge("there are more than 100 weaker concepts")
    return forms, found


class Weaker:
    """The strongest weaker concepts by which a consequence is lost, and the weakest ones by which it is kept."""

    def __init__(self, lost, kept):
        self.lost = list(lost)
        self.kept = list(kept)

    def __eq__(self, other):
        return isinstance(other, Weaker) and self.lost == other.lost and self.kept == other.kept

    def shows(self, book, rule, concept, other):
        """Whether the concepts are as described, with right evidence for each of them."""
        forms, known = _need_question(book, rule, concept, other)
        lost = numbers_apart(forms, [told for told, _ in self.lost])
        kept = numbers_apart(forms, [told for told, _ in self.kept])
        if lost is None or kept is None:
            return False
        if [number for number in [*lost, *kept] if number not in known]:
            return False
        for number in known:
            if not _has_lower(forms, lost, number) and not _has_upper(forms, kept, number):
                return False
        if [evidence for _, evidence in self.lost if not isinstance(evidence, Fails)]:
            return False
        if [evidence for _, evidence in self.kept if not isinstance(evidence, Follows)]:
            return False
        for told, evidence in [*self.lost, *self.kept]:
            if not evidence.shows(_changed(book, rule, told), concept, other):
                return False
        return True


def _has_lower(forms, numbers, form):
    """Whether one of some forms lies plainly within a form."""
    for number in numbers:
        if forms.is_within(number, form):
            return True
    return False


def _has_upper(forms, numbers, form):
    """Whether a form lies plainly within one of some forms."""
    for number in numbers:
        if forms.is_within(form, number):
            return True
    return False


def weaker(book, rule, concept, other):
    """A Weaker for a rule of a book, and for a concept that lies within another one by the book."""
    forms, known = _need_question(book, rule, concept, other)
    lost, kept = [], []
    for number in known:
        told = forms.concepts[number]
        if lies_within(_changed(book, rule, told), concept, other):
            kept.append(number)
        else:
            lost.append(number)
    lowest = [one for one in lost if not _has_lower(forms, [more for more in lost if more != one], one)]
    highest = [one for one in kept if not _has_upper(forms, [more for more in kept if more != one], one)]
    rows = []
    for numbers in (lowest, highest):
        order = sorted([(forms.texts[number], number) for number in numbers])
        concepts = [forms.concepts[number] for _, number in order]
        rows.append([(told, judge(_changed(book, rule, told), concept, other)) for told in concepts])
    return Weaker(rows[0], rows[1])

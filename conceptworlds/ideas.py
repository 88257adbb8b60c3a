"""Ideas: concepts as objects, equal if the concepts are plainly equal."""

from conceptworlds.concepts import need_role, size_of, text_of
from conceptworlds.plain import plainly_within
from conceptworlds.reading import read
from conceptworlds.reduced import plain_common, reduced


def _items_of(form):
    """The items of a reduced form."""
    if isinstance(form, str) or form[0] != "and":
        return [] if form == "all" else [form]
    return list(form[1:])


class Idea:
    """A concept, told by what it says."""

    def __init__(self, told):
        self._form = reduced(told)
        self._given = told
        self._told = text_of(self._form)
        self._items = _items_of(self._form)

    @classmethod
    def parsed(cls, told):
        """The idea of the concept whose text a string is."""
        return cls(read(told))

    @property
    def given(self):
        """The concept."""
        return self._given

    @property
    def form(self):
        """The reduced form of the concept."""
        return self._form

    def __eq__(self, other):
        return isinstance(other, Idea) and self._told == other._told

    def __bool__(self):
        return bool(self._form != "none")

    def __len__(self):
        return len(self._items)

    def __iter__(self):
        return iter(self._items)

    def __str__(self):
        return str(self._told)

    def weight(self):
        """The size of the reduced form."""
        return size_of(self._form)

    def inside(self, other):
        """Whether the concept lies plainly within that of another idea."""
        return plainly_within(self._given, other.given)

    def covers(self, concept):
        """Whether a concept lies plainly within that of the idea."""
        return plainly_within(concept, self._given)

    def also(self, other):
        """The idea of the and of both concepts."""
        return Idea(("and", self._given, other.given))

    def common(self, other):
        """The idea of the plain common concept of both concepts."""
        return Idea(plain_common(self._given, other.given))

    def some(self, role):
        """The idea of the some with a role and the concept."""
        need_role(role)
        return Idea(("some", role, self._given))

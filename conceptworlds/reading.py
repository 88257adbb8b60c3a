"""Reading the texts of concepts."""

from conceptworlds.concepts import DEEPEST, is_concept, text_of
from conceptworlds.errors import BadText


class Reader:
    """A text that is read from its beginning on, piece by piece."""

    def __init__(self, told):
        self._told = told
        self._at = 0

    def read_all(self):
        """The concept that the whole text tells."""
        found = self._read_items(DEEPEST)
        if self._at < len(self._told):
            raise BadText("there is more behind the concept")
        return found

    def _takes(self, sign):
        """Whether the next signs are some that are told; then they are read."""
        found = self._told.startswith(sign, self._at)
        if found:
            self._at = self._at + len(sign)
        return found

    def _read_word(self):
        """The letters that come next."""
        start = self._at
        while self._at < len(self._told) and "a" <= self._told[self._at] <= "z":
            self._at = self._at + 1
        return self._told[start:self._at]

    def _read_items(self, levels):
        """The item that comes next, or the and of several ones; items are nested at most so many levels deep."""
        items = [self._read_item(levels)]
        while self._takes(" & "):
            items.append(self._read_item(levels))
        return items[0] if len(items) == 1 else ("and", *items)

    def _read_item(self, levels):
        """The word, the some, or what stands in parentheses, that comes next, nested at most so many levels deep."""
        if levels < 0:
            raise BadText("nested too deep")
        if self._takes("("):
            found = self._read_items(levels - 1)
            if not self._takes(")"):
                raise BadText("a parenthesis is not closed")
            return found
        word = self._read_word()
        if word != "some" or not self._takes(" "):
            return word
        role = self._read_word()
        if not self._takes(" "):
            raise BadText("there is no concept behind a role")
        return "some", role, self._read_item(levels - 1)


def read(told):
    """The concept whose text a string is.

    What has been read is no concept, or has another text, if words are wrong, or parentheses stand where none are due.
    """
    if not isinstance(told, str):
        raise BadText("not a string")
    found = Reader(told).read_all()
    if not is_concept(found) or text_of(found) != told:
        raise BadText("not the text of a concept")
    return found

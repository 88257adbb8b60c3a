"""Numbers for concepts, so that concepts that are nested deep can be keys, and values that tables have for them."""


class Table:
    """Concepts with numbers: each concept gets one when it is first met.

    For each number, roles has the role of a some, and otherwise None; within has the numbers of the
    concepts that stand directly in the concept.
    """

    def __init__(self):
        self.concepts = []
        self.roles = []
        self.within = []
        self._numbers = {}

    def number(self, concept):
        """The number of a concept."""
        if isinstance(concept, str):
            return self._enter(concept, concept, None, ())
        if concept[0] == "some":
            return self.some(concept[1], self.number(concept[2]))
        numbers = []
        for part in concept[1:]:
            numbers.append(self.number(part))
        return self.both(numbers)

    def some(self, role, part):
        """The number of the some of a role and of the concept with a number."""
        return self._enter(("some", role, part), ("some", role, self.concepts[part]), role, (part,))

    def both(self, numbers):
        """The number of the and of the concepts with some numbers."""
        concept = ("and", *[self.concepts[number] for number in numbers])
        return self._enter(("and", *numbers), concept, None, tuple(numbers))

    def _enter(self, key, concept, role, within):
        """The number of a concept, by what it is made of."""
        if key not in self._numbers:
            self._numbers[key] = len(self.concepts)
            self.concepts.append(concept)
            self.roles.append(role)
            self.within.append(within)
        return self._numbers[key]


def value_of(table, concept):
    """What a table tells of a concept, made of what it tells of names, of the ands of two parts, and of somes."""
    if isinstance(concept, str):
        return table.of_name(concept)
    if concept[0] == "some":
        return table.lift(concept[1], value_of(table, concept[2]))
    found = value_of(table, concept[1])
    for part in concept[2:]:
        found = table.meet(found, value_of(table, part))
    return found

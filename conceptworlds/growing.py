"""Concept rules that are taken one by one, and taken back, with all that follows from those that are taken."""

from conceptworlds.deciding import saturate_all
from conceptworlds.graphs import lies_in, mask_of
from conceptworlds.programs import Program


class Growing:
    """Concept rules with numbers, and what follows from those that are taken and from some role rules.

    A rule says that what lies within some terms, its premises, lies within another one. All terms must be parts
    of asked concepts.
    """

    def __init__(self, role_rules, asked):
        self._program = Program(role_rules, asked)
        self._saturation = saturate_all(self._program)
        self._joint = self._program.ands()
        self._horns = []
        self._start = self._place()

    def numbers(self, concepts):
        """The numbers of some terms."""
        return tuple([self._program.table.number(concept) for concept in concepts])

    def put(self, premises, conclusion):
        """The number of a new rule, which is not taken yet."""
        number = len(self._horns)
        horn = premises, conclusion, ("rule", number, conclusion)
        self._horns.append(horn)
        self._program.put_horn(*horn)
        self._saturation.bar(number)
        return number

    def has(self, premises, conclusion):
        """Whether what lies within some terms lies within another one."""
        masks, found = self._saturation.masks, 0
        for premise in premises:
            found = found | masks[premise]
        before = -1
        while found != before:
            if found >> conclusion & 1 or found >> self._program.bottom & 1:
                return True
            before = found
            for joint, term in self._joint:
                if lies_in(joint, found):
                    found = found | masks[term]
        return False

    def follows_already(self, number):
        """Whether a rule follows from those that are taken."""
        premises, conclusion, _ = self._horns[number]
        return self.has(premises, conclusion)

    def take(self, number):
        """Takes a rule, if it does not follow already."""
        if not self.follows_already(number):
            horn = self._horns[number]
            self._joint.append((mask_of(horn[0]), horn[1]))
            self._saturation.apply(horn)

    def take_back_all(self):
        """Takes all rules back."""
        self._go_back(self._start)

    def needed(self, first, last):
        """Those of the rules from a number to another one, this left out, that are needed beside those taken.

        From the last one on, a rule is left out, if it follows from all before it and from the needed ones behind.
        To have these at hand for each rule, the first half is taken for the last one, and the other way round.
        """
        if last - first < 2:
            return [number for number in range(first, last) if not self.follows_already(number)]
        middle, place = (first + last) // 2, self._place()
        for number in range(first, middle):
            self.take(number)
        later = self.needed(middle, last)
        self._go_back(place)
        for number in later:
            self.take(number)
        found = [*self.needed(first, middle), *later]
        self._go_back(place)
        return found

    def _place(self):
        """What must be known to go back to where it stands now."""
        return len(self._joint), self._saturation.place()

    def _go_back(self, place):
        """Takes back all rules that were taken since it stood at a place."""
        many, earlier = place
        del self._joint[many:]
        self._saturation.go_back(earlier)

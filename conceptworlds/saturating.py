"""Which terms a term lies within, with a reason for each of them."""

from conceptworlds.graphs import bits

# A some that a thing is in for these reasons needs no thing of its own: an edge that is there already,
# or a loop, leads to a thing that is in its part.
LED_TO = ("some", "passes", "below", "itself")


class Saturation:
    """The terms that some terms, the subjects, lie within, by a program without some of its concept rules.

    A fact is a triple of a subject, a term that it lies within, and a reason; all facts stand in history,
    behind the facts from which they follow. A reason begins with a word:
    - "same", "all", and "and" (the facts for the parts of the term) stand alone;
    - "part" with the and, "below" with the other some, "itself" with the part: a term of the subject;
    - "rule" with the index of the rule and its first concept, a term of the subject;
    - "some", "passes", "empty" with a some of the subject, and a term of the part of this some.
    A subject that lies within none gets no more facts: it lies within all terms.
    """

    def __init__(self, program, without=()):
        self._program = program
        self._without = {index: True for index in without}
        self._done = 0
        self.history = []
        self.found = {}
        self.masks = {}
        self.links = {}
        self._holders = {}
        self._linked = []
        self._applied = []

    def start(self, subject):
        """Makes a term a subject."""
        if subject not in self.found:
            self.found[subject] = {}
            self.masks[subject] = 0
            self.links[subject] = []
            self._holders[subject] = {}
            self._put(subject, subject, ("same",))
            self._put(subject, self._program.top, ("all",))

    def run(self):
        """Finds all that follows; each some that asks for a thing makes its part a subject."""
        while self._done < len(self.history):
            self._take_next()

    def reaches(self, subject, term):
        """Whether a subject lies within a term; finds no more than needed for that."""
        self.start(subject)
        while self._done < len(self.history) and not self.holds(subject, term):
            self._take_next()
        return self.holds(subject, term)

    def is_dead(self, subject):
        """Whether a subject is nothing."""
        return self._program.bottom in self.found[subject]

    def holds(self, subject, term):
        """Whether a subject lies within a term."""
        return term in self.found[subject] or self.is_dead(subject)

    def bar(self, index):
        """Leaves out a concept rule that is new, until it is applied."""
        self._without[index] = True

    def apply(self, horn):
        """Finds what follows by a horn that was left out: that of a concept rule."""
        del self._without[horn[2][1]]
        self._applied.append(horn[2][1])
        for subject in list(self.found):
            self._fire(subject, self.found[subject], horn)
        self.run()

    def place(self):
        """What must be known to go back to all that is found now, where nothing is left to be found."""
        return len(self.history), len(self._linked), len(self._applied)

    def go_back(self, place):
        """Goes back to what was found at a place. No term may have become a subject since."""
        many, links, rules = place
        for subject, term, _ in self.history[many:]:
            del self.found[subject][term]
            self.masks[subject] = self.masks[subject] ^ 1 << term
        for part, role in self._linked[links:]:
            self.links[part].pop()
            self._holders[part][role].pop()
        for index in self._applied[rules:]:
            self._without[index] = True
        del self.history[many:]
        del self._linked[links:]
        del self._applied[rules:]
        self._done = many

    def _take_next(self):
        """Puts all that follows from the next fact."""
        subject, term, reason = self.history[self._done]
        self._done = self._done + 1
        if term == self._program.bottom or self._program.bottom not in self.found[subject]:
            self._take(subject, term, reason)

    def _put(self, subject, term, reason):
        """Puts a fact, if it is new."""
        row = self.found[subject]
        if term not in row and self._program.bottom not in row:
            row[term] = len(self.history)
            self.masks[subject] = self.masks[subject] | 1 << term
            self.history.append((subject, term, reason))

    def _fire(self, subject, row, horn):
        """Puts the conclusion of a horn, if the subject lies within its premises."""
        premises, conclusion, reason = horn
        if conclusion in row or reason[0] == "rule" and reason[1] in self._without:
            return
        for premise in premises:
            if premise not in row:
                return
        self._put(subject, conclusion, reason)

    def _take(self, subject, term, reason):
        """Puts all that follows from a fact and from those before it."""
        row = self.found[subject]
        for horn in self._program.horns(term):
            self._fire(subject, row, horn)
        role = self._program.table.roles[term]
        if role is not None and reason[0] not in LED_TO:
            self._link(subject, role, term)
        for by, holders in self._holders[subject].items():
            lifts = self._program.lifts(by, term)
            if lifts:
                for holder, some in list(holders):
                    self._lead(holder, some, term, lifts)

    def _link(self, subject, role, some):
        """Gives a subject an edge by a role to the part of a some."""
        part = self._program.table.within[some][0]
        self.start(part)
        self.links[part].append((subject, role, some))
        self._holders[part].setdefault(role, []).append((subject, some))
        self._linked.append((part, role))
        for term in bits(self.masks[part] & self._program.lifting(role)):
            self._lead(subject, some, term, self._program.lifts(role, term))

    def _lead(self, holder, some, term, lifts):
        """Puts what a subject lies within because the part of one of its somes lies within a term."""
        for conclusion, word in lifts:
            self._put(holder, conclusion, (word, some, term))

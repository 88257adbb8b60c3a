"""Derivations, made of the facts of a saturation."""


class Derivation:
    """The steps by which a subject lies within a term."""

    def __init__(self, program, saturation):
        self._program = program
        self._table = program.table
        self._saturation = saturation
        self._said = {}
        self.steps = []

    def prove(self, subject, goal):
        """The list of steps that ends with this one: the subject lies within the goal."""
        bottom, row = self._program.bottom, self._saturation.found[subject]
        last = goal if goal in row else bottom
        for at in self._needed(row[last]):
            self._tell(self._saturation.history[at])
        if last != goal:
            self._say(bottom, goal, "none", ())
            self._join(subject, bottom, goal)
        return self.steps[:self._said[subject, goal] + 1]

    def _needed(self, last):
        """The ascending list of the places, in the history, of the facts on which a fact rests, and its own."""
        waiting, seen = [last], {last: True}
        while waiting:
            for subject, term in self._grounds(self._saturation.history[waiting.pop()]):
                place = self._saturation.found[subject][term]
                if place not in seen:
                    seen[place] = True
                    waiting.append(place)
        return sorted(seen)

    def _grounds(self, fact):
        """The facts whose steps those of a fact need, as pairs of a subject and a term."""
        subject, term, reason = fact
        if reason[0] in ("same", "all"):
            return []
        if reason[0] == "and":
            return [(subject, part) for part in self._table.within[term]]
        grounds = [(subject, reason[-1])]
        if reason[0] in ("some", "passes", "empty"):
            grounds = [(subject, reason[1]), (self._table.within[reason[1]][0], reason[2])]
        return [(one, other) for one, other in grounds if one != other]

    def _say(self, first, second, word, numbers):
        """Puts a step, if there is none yet that says the same."""
        if (first, second) not in self._said:
            self._said[first, second] = len(self.steps)
            concepts = self._table.concepts
            self.steps.append((concepts[first], concepts[second], word, tuple(numbers)))

    def _join(self, first, middle, last):
        """Puts the step from the first to the last one, where those to and from the middle one are there."""
        if middle not in (first, last):
            self._say(first, last, "then", (self._said[first, middle], self._said[middle, last]))

    def _climb(self, some, upper):
        """Puts steps from a some to one with the same part and a role that its role is under."""
        way = self._program.roles.way(self._table.roles[some], self._table.roles[upper])
        part = self._table.within[some][0]
        for lower, role in zip(way, way[1:]):
            before, after = self._table.some(lower, part), self._table.some(role, part)
            self._say(before, after, "below", ())
            self._join(some, before, after)

    def _tell(self, fact):
        """Puts the steps for a fact; those for its grounds are there."""
        subject, term, reason = fact
        word = reason[0]
        if word in ("same", "all"):
            self._say(subject, term, word, ())
        elif word == "and":
            numbers = [self._said[subject, part] for part in self._table.within[term]]
            self._say(subject, term, word, numbers)
        elif word in ("some", "passes", "empty"):
            self._tell_edge(reason[1], reason[2], term, word)
            self._join(subject, reason[1], term)
        else:
            self._tell_one(term, reason)
            self._join(subject, reason[-1], term)

    def _tell_one(self, term, reason):
        """Puts the steps to a term from the one term on which its reason rests."""
        word, ground = reason[0], reason[-1]
        if word == "part":
            self._say(ground, term, word, ())
        elif word == "rule":
            self._say(ground, term, word, (reason[1],))
        elif word == "below":
            self._climb(ground, term)
        else:
            loop = self._table.some(self._program.roles.loop_under(self._table.roles[term]), ground)
            self._say(ground, loop, word, ())
            self._climb(loop, term)
            self._join(ground, loop, term)

    def _tell_edge(self, some, inside, term, word):
        """Puts the steps from a some to a term, which rest on a term that its part lies within."""
        role, part = self._table.roles[some], self._table.within[some][0]
        led = self._table.some(role, inside)
        if led != some:
            self._say(some, led, "some", (self._said[part, inside],))
        if word == "some":
            self._climb(led, term)
        elif word == "passes":
            twice = self._table.some(self._table.roles[term], inside)
            self._climb(led, twice)
            self._say(twice, term, word, ())
            self._join(led, twice, term)
        else:
            self._say(led, term, word, ())
        self._join(some, led, term)

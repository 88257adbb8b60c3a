"""At which depth pairs of things come apart, and by which concepts."""

from conceptworlds.concepts import conjoin


class Parting:
    """The pairs that matter for comparing two things, each with the depth at which it comes apart.

    A pair comes apart at a depth, if a concept of this depth, and none of a lesser one, has the first
    thing and not the second one. A demand (role, step, y) is what an edge by the role to the thing step
    asks of y: an edge by this role to a thing by which step is taken in.
    """

    def __init__(self, world, thing, other, other_thing, words):
        self._other = other.graph()
        self._names = [[name for name in row if name in words[0]] for row in world.names()]
        self._others = other.names()
        self._steps = _told_steps(world, words[1])
        self._ends = _ends_by_role(other, words[1])
        self.pair = thing, other_thing
        self.levels = {}
        self._causes = {}
        self._askers = {}
        self._asked = {}
        self._explore()
        self._part()

    def _missing(self, pair):
        """The told names that the first thing of a pair has, and the second one has not."""
        return [name for name in self._names[pair[0]] if name not in self._others[pair[1]]]

    def _explore(self):
        """Finds all pairs that can matter, and which demands ask for which pairs."""
        self.levels[self.pair] = None
        waiting = [self.pair]
        while waiting:
            pair = waiting.pop()
            if self._missing(pair):
                self.levels[pair] = 0
                continue
            for role, step in self._steps[pair[0]]:
                demand = role, step, pair[1]
                if demand not in self._askers:
                    self._askers[demand] = []
                    waiting.extend(self._answers_to(demand))
                self._askers[demand].append(pair)

    def _answers_to(self, demand):
        """Notes that a demand can be met by some pairs; returns those that are new."""
        fresh = []
        for end in self._ends.get((demand[0], demand[2]), []):
            pair = demand[1], end
            self._asked.setdefault(pair, []).append(demand)
            if pair not in self.levels:
                self.levels[pair] = None
                fresh.append(pair)
        return fresh

    def _part(self):
        """Finds the depths, one after the other: a demand fails when its last pair has come apart."""
        left = {demand: len(self._ends.get((demand[0], demand[2]), [])) for demand in self._askers}
        failing = [demand for demand in left if left[demand] == 0]
        apart = [pair for pair in self.levels if self.levels[pair] == 0]
        level = 0
        while apart or failing:
            for pair in apart:
                for demand in self._asked.get(pair, []):
                    left[demand] = left[demand] - 1
                    if left[demand] == 0:
                        failing.append(demand)
            level = level + 1
            apart = []
            for demand in failing:
                for pair in self._askers[demand]:
                    if self.levels[pair] is None:
                        self.levels[pair] = level
                        self._causes[pair] = demand
                        apart.append(pair)
            failing = []

    def level(self):
        """The least depth of a concept that has the first thing and not the second one, or None."""
        return self.levels[self.pair]

    def together(self):
        """The ascending list of the pairs that do not come apart."""
        return sorted([pair for pair in self.levels if self.levels[pair] is None])

    def refutation(self):
        """A concept of least depth that has the first thing and not the second one.

        Pairs of lesser levels come first, so that no chain of pairs needs a recursion.
        """
        needed, at = [self.pair], 0
        seen = {self.pair: True}
        while at < len(needed):
            for pair in self._answers(needed[at]):
                if pair not in seen:
                    seen[pair] = True
                    needed.append(pair)
            at = at + 1
        built = {}
        for _, thing, other in sorted([(self.levels[pair], pair[0], pair[1]) for pair in needed]):
            built[thing, other] = self._build((thing, other), built)
        return built[self.pair][0]

    def _answers(self, pair):
        """The pairs by whose coming apart a pair has come apart."""
        if self.levels[pair] == 0:
            return []
        role, step, other = self._causes[pair]
        return [(step, end) for end in self._ends.get((role, other), [])]

    def _build(self, pair, built):
        """A concept for a pair, and the set of the things of the second world that are in it.

        A part is left out if the parts before it have already refuted what it is there for.
        """
        if self.levels[pair] == 0:
            name = self._missing(pair)[0]
            return name, self._other.named.get(name, 0)
        pieces, held = [], self._other.everything
        for answer in self._answers(pair):
            if held >> answer[1] & 1:
                piece, mask = built[answer]
                pieces.append(piece)
                held = held & mask
        role = self._causes[pair][0]
        return ("some", role, conjoin(pieces)), self._other.behind(role, held)


def _told_steps(world, roles):
    """For each thing, the list of its edges by told roles, as pairs of a role and a thing."""
    steps = [[] for _ in range(len(world))]
    for thing, role, end in world.edges():
        if role in roles:
            steps[thing].append((role, end))
    return steps


def _ends_by_role(world, roles):
    """A dict from pairs of a told role and a thing to the things to which it has edges by the role."""
    ends = {}
    for thing, role, end in world.edges():
        if role in roles:
            ends.setdefault((role, thing), []).append(end)
    return ends

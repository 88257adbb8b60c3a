"""The least prices of the concepts that the things of a world are in, for each kind of these concepts."""

from heapq import heappop, heappush

from conceptworlds.concepts import conjoin


class Pricing:
    """For each thing of a world and each kind of a concept that it is in, a concept of the least price.

    A place is a pair of a thing and a kind. A piece of a thing is a name of it, or a some with a role of an edge
    and the concept of a place of the end; a concept of a place is the and of pieces. Costs are pairs of a price
    and a size; places and pieces come in the order of their costs.
    """

    def __init__(self, table, world, names, roles):
        self._table = table
        self._names = names
        self._roles = roles
        self._before = [[] for _ in range(len(world))]
        for thing, role, end in world.edges():
            self._before[end].append((thing, role))
        self._queue = []
        self._turn = 0
        self._offered = {}
        self._pieces = [{} for _ in range(len(world))]
        self._kinds = [{} for _ in range(len(world))]
        self.costs = {}
        self.concepts = {}
        for thing, row in enumerate(world.names()):
            self._offer_place(thing, table.of_term("all"), (0, 0), ())
            for name in row:
                self._offer_piece(thing, table.of_term(name), (names[name], 1), name)

    def run(self):
        """Finds the costs of all places."""
        while self._queue:
            cost, _, is_piece, thing, kind, made_of = heappop(self._queue)
            if is_piece and kind not in self._pieces[thing]:
                self._pieces[thing][kind] = cost, made_of
                for other, (more, pieces) in list(self._kinds[thing].items()):
                    self._join(thing, (other, more, pieces), (kind, cost, made_of))
            elif not is_piece and kind not in self._kinds[thing]:
                self._enter(thing, kind, cost, made_of)

    def _enter(self, thing, kind, cost, pieces):
        """Notes the cost of a place, and offers what can be made of it."""
        concept = conjoin(pieces)
        self._kinds[thing][kind] = cost, pieces
        self.costs[thing, kind] = cost
        self.concepts[thing, kind] = concept
        for before, role in self._before[thing]:
            total = cost[0] + self._roles[role], cost[1] + 1
            self._offer_piece(before, self._table.lift(role, kind), total, ("some", role, concept))
        for other, (more, piece) in list(self._pieces[thing].items()):
            self._join(thing, (kind, cost, pieces), (other, more, piece))

    def _join(self, thing, place, piece):
        """Offers the and of the concept of a place and of a piece."""
        kind, cost, pieces = place
        other, more, made = piece
        total = cost[0] + more[0], cost[1] + more[1]
        self._offer_place(thing, self._table.meet(kind, other), total, (*pieces, made))

    def _offer_piece(self, thing, kind, cost, piece):
        """Offers a name or a some of a thing."""
        self._offer((True, thing, kind), cost, piece)

    def _offer_place(self, thing, kind, cost, pieces):
        """Offers an and of pieces of a thing."""
        self._offer((False, thing, kind), cost, pieces)

    def _offer(self, key, cost, made_of):
        """Offers something, if it is cheaper than what was offered for the same before."""
        if key not in self._offered or cost < self._offered[key]:
            self._offered[key] = cost
            self._turn = self._turn + 1
            heappush(self._queue, (cost, self._turn, *key, made_of))

"""The cheapest part of a book that says, in told words, all that the book says."""

from conceptworlds.books import need_book
from conceptworlds.concepts import is_ascending, need_words
from conceptworlds.deciding import lies_within
from conceptworlds.graphs import bits, mask_of
from conceptworlds.prices import cheapest_choice, need_rule_prices
from conceptworlds.saying import find_loss, list_standings
from conceptworlds.worlds import is_number


def _need_question(book, words, prices):
    """Refuses what is not a book, told words, and prices of its concept rules."""
    need_book(book)
    need_words(words)
    need_rule_prices(prices, book)


def _part(book, kept):
    """The part of a book with all its role rules, and with the concept rules with some indices."""
    return [rule for index, rule in enumerate(book) if rule[0] != "within" or index in kept]


def _are_indices(kept, prices):
    """Whether a value is an ascending tuple of indices that have prices."""
    if not isinstance(kept, tuple):
        return False
    for index in kept:
        if not is_number(index) or index not in prices:
            return False
    return is_ascending(kept)


class Enough:
    """A part of a book that is enough, and why no cheaper one is."""

    def __init__(self, kept, says, losses):
        self.kept = kept
        self.says = says
        self.losses = list(losses)

    def __eq__(self, other):
        if not isinstance(other, Enough) or self.kept != other.kept:
            return False
        return self.says == other.says and self.losses == other.losses

    def shows(self, book, words, prices):
        """Whether the part is enough, and each cheaper one lies within one that is shown to lose something."""
        _need_question(book, words, prices)
        order = sorted(prices)
        if not _are_indices(self.kept, prices):
            return False
        for indices, loses in self.losses:
            if not _are_indices(indices, prices) or not loses.shows(book, _part(book, indices), words):
                return False
        places = {index: at for at, index in enumerate(order)}
        barred = [mask_of([places[index] for index in indices]) for indices, _ in self.losses]
        least = cheapest_choice([prices[index] for index in order], barred)
        if least is None or least[0] < sum([prices[index] for index in self.kept]):
            return False
        return self.says.shows(book, _part(book, self.kept), words)


def _widest(book, order, chosen, loses):
    """The set of the concept rules of a part that has some of them and as many others as can be, and still loses.

    Two concepts of which the part loses that one lies within the other stay: in a wider part no less depth is lost.
    """
    for at in range(len(order)):
        wider = chosen | 1 << at
        kept = [order[place] for place in bits(wider)]
        if wider != chosen and not lies_within(_part(book, kept), loses.concept, loses.other):
            chosen = wider
    return chosen


def cheapest_part(book, words, prices):
    """The cheapest part of a book that is enough for told words: each loss that is found bars all parts within."""
    _need_question(book, words, prices)
    order = sorted(prices)
    barred, losses = [], []
    while True:
        chosen = cheapest_choice([prices[index] for index in order], barred)[1]
        kept = tuple([order[at] for at in bits(chosen)])
        loses = find_loss(book, _part(book, kept), words)
        if loses is None:
            return Enough(kept, list_standings(book, _part(book, kept), words), losses)
        wider = _widest(book, order, chosen, loses)
        barred.append(wider)
        losses.append((tuple([order[at] for at in bits(wider)]), loses))

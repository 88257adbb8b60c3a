"""Prices of rules and words, and the cheapest choices that meet some demands."""

from heapq import heappop, heappush

from conceptworlds.errors import BadPrices
from conceptworlds.graphs import bits, mask_of
from conceptworlds.worlds import is_number


def are_prices(prices):
    """Whether some values are all integers from 0."""
    for price in prices:
        if not is_number(price) or price < 0:
            return False
    return True


def need_rule_prices(prices, book):
    """Refuses what is not a dict with just the indices of all concept rules as keys, and prices."""
    if not isinstance(prices, dict) or not are_prices(list(prices.values())):
        raise BadPrices("not prices of rules")
    indices = [index for index, rule in enumerate(book) if rule[0] == "within"]
    keys = list(prices)
    if [key for key in keys if not is_number(key)] or sorted(keys) != indices:
        raise BadPrices("not prices of just the concept rules")


def need_word_prices(prices, words):
    """Refuses what is not a dict with strings as keys, among them all of some words, and prices."""
    if not isinstance(prices, dict) or not are_prices(list(prices.values())):
        raise BadPrices("not prices of words")
    if [key for key in prices if not isinstance(key, str)] or [word for word in words if word not in prices]:
        raise BadPrices("not prices of all words")


def _still_needed(wanted, chosen):
    """A price and a number that a choice needs at least beside what is chosen, and the first set that it misses.

    Of sets that have nothing in common, and that are missed, each one needs one more number at least.
    """
    price, many, used, first = 0, 0, chosen, None
    for mask, least in wanted:
        if not mask & chosen and first is None:
            first = mask
        if not mask & used:
            price, many, used = price + least, many + 1, used | mask
    return price, many, first


def cheapest_choice(prices, barred):
    """The price and the set of some of the numbers from 0, as few as can be of the least price, that is not barred.

    The price of a number is at its place; a set is barred, if it lies within one of the barred sets. Each choice
    that is not barred has a number outside of each barred set, so the choices are made of those, in the order of
    what they cost at least in the end.
    """
    everything = (1 << len(prices)) - 1
    if everything in barred:
        return None
    sets = [bits(everything & ~mask) for mask in barred]
    wanted = [(mask_of(numbers), min([prices[number] for number in numbers])) for numbers in sorted(sets, key=len)]
    queue, seen = [(0, 0, 0, 0, 0)], {0: True}
    while queue:
        _, _, price, many, chosen = heappop(queue)
        _, _, missed = _still_needed(wanted, chosen)
        if missed is None:
            return price, chosen
        for at in bits(missed):
            more = chosen | 1 << at
            if more not in seen:
                seen[more] = True
                rest, count, _ = _still_needed(wanted, more)
                total = price + prices[at]
                heappush(queue, (total + rest, many + 1 + count, total, many + 1, more))
    return None

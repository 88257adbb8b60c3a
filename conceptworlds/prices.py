"""Prices of rules and words, and the cheapest choices that meet some demands."""

from heapq import heappop, heappush

from conceptworlds.errors import BadPrices
from conceptworlds.graphs import bits, lies_in
from conceptworlds.worlds import is_number


def are_prices(prices):
    """Whether some values are all integers from 0."""
    for price in prices:
        if not is_number(price) or price < 0:
            return False
    return True


def need_rule_prices(prices, book):
    """Refuses what is not a dict with just the indices of all concept rules as keys, and prices."""
    if not isinstance(prices, dict) or not are_prices(list(prices.values())):
        raise BadPrices("not prices of rules")
    indices = [index for index, rule in enumerate(book) if rule[0] == "within"]
    keys = list(prices)
    if [key for key in keys if not is_number(key)] or sorted(keys) != indices:
        raise BadPrices("not prices of just the concept rules")


def need_word_prices(prices, words):
    """Refuses what is not a dict with strings as keys, among them all of some words, and prices."""
    if not isinstance(prices, dict) or not are_prices(list(prices.values())):
        raise BadPrices("not prices of words")
    if [key for key in prices if not isinstance(key, str)] or [word for word in words if word not in prices]:
        raise BadPrices("not prices of all words")


def cheapest_choice(prices, barred):
    """The price and the set of some of the numbers from 0, as few as can be of the least price, that is not barred.

    The price of a number is at its place; a set is barred, if it lies within one of the barred sets. Each choice
    that is not barred has a number outside of each barred set, so the choices are made of those.
    """
    everything = (1 << len(prices)) - 1
    queue, seen = [(0, 0, 0)], {0: True}
    while queue:
        price, many, chosen = heappop(queue)
        wider = [mask for mask in barred if lies_in(chosen, mask)]
        if not wider:
            return price, chosen
        for at in bits(everything & ~wider[0]):
            more = chosen | 1 << at
            if more not in seen:
                seen[more] = True
                heappush(queue, (price + prices[at], many + 1, more))
    return None

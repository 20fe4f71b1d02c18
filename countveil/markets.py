"""Markets: prices and amounts of goods, time by time, and price numbers from one time to another."""

from countveil.errors import NoMarket, NoTime, NoWay
from countveil.kinds import is_list_of, is_tuple_of, is_whole_within
from countveil.plans import is_name
from countveil.ratios import ONE, fraction, sum_of, times

MOST_GOODS = 8
MOST_TIMES = 24
MOST_PRICE = 10 ** 6
MOST_AMOUNT = 10 ** 6
OLD = "old"
NEW = "new"


def is_market_by_form(thing):
    """Whether it is a tuple of three, the last two lists of as many, one to twenty-four, things."""
    if not is_tuple_of(thing, 3) or not isinstance(thing[1], list) or not is_list_of(thing[2], len(thing[1])):
        return False
    return 1 <= len(thing[1]) <= MOST_TIMES


def are_goods(thing):
    """Whether it is a tuple of one to eight unlike names."""
    if not isinstance(thing, tuple) or not 1 <= len(thing) <= MOST_GOODS:
        return False
    # Only texts reach the set: other things may be lists, which no set can hold.
    return all(is_name(good) for good in thing) and len(set(thing)) == len(thing)


def are_prices(thing, many):
    """Whether it is a list of the prices of so many goods."""
    return is_list_of(thing, many) and all(is_whole_within(price, 1, MOST_PRICE) for price in thing)


def are_amounts(thing, many):
    """Whether it is a list of the amounts of so many goods, not all 0."""
    if not is_list_of(thing, many) or not all(is_whole_within(amount, 0, MOST_AMOUNT) for amount in thing):
        return False
    return max(thing) > 0


def market_wrong(thing):
    """None where it is a market, else the first that is wrong with it."""
    if not is_market_by_form(thing):
        return ("market",)
    goods, prices, amounts = thing
    if not are_goods(goods):
        return ("goods",)
    for k, line in enumerate(prices):
        if not are_prices(line, len(goods)):
            return ("prices", k)
    for k, line in enumerate(amounts):
        if not are_amounts(line, len(goods)):
            return ("amounts", k)
    return None


def need_way(market, one, other, way):
    """Refuse what is no market, then what are no two times of it, then what is no way."""
    if market_wrong(market) is not None:
        raise NoMarket("this is no market")
    if not all(is_whole_within(time, 0, len(market[1]) - 1) for time in (one, other)):
        raise NoTime("this is no time of the market")
    if way != OLD and way != NEW:
        raise NoWay("this is no way")


def amounts_by(market, one, other, way):
    """The amounts that count from one time to another: those of the first, or of the second."""
    return market[2][one] if way == OLD else market[2][other]


def come_to_at(prices, amounts):
    """What the amounts come to at the prices."""
    return sum(price * amount for price, amount in zip(prices, amounts))


def number_of(market, one, other, way):
    """What number tells, of what is known not to be refused."""
    prices = market[1]
    amounts = amounts_by(market, one, other, way)
    return fraction(come_to_at(prices[other], amounts), come_to_at(prices[one], amounts))


def number(market, one, other, way):
    """The price number from one time to another."""
    need_way(market, one, other, way)
    return number_of(market, one, other, way)


def steps_between(one, other):
    """The steps from one time to another, as tuples (from, to) of times one beside the other."""
    on = 1 if one <= other else -1
    return [(begin, begin + on) for begin in range(one, other, on)]


def chained(market, one, other, way):
    """The product of the price numbers from each time to the next one on the way to the other."""
    need_way(market, one, other, way)
    product = ONE
    for begin, end in steps_between(one, other):
        product = times(product, number_of(market, begin, end, way))
    return product


def parts_of(market, one, other, way):
    """What parts tells, of what is known not to be refused."""
    before, after = market[1][one], market[1][other]
    amounts = amounts_by(market, one, other, way)
    whole = come_to_at(before, amounts)
    return [fraction((new - old) * amount, whole) for old, new, amount in zip(before, after, amounts)]


def parts(market, one, other, way):
    """For each good by how much its price alone makes the price number more, or less, than 1."""
    need_way(market, one, other, way)
    return parts_of(market, one, other, way)


def chained_parts(market, one, other, way):
    """For each good the sum of its parts in all steps, each times what is chained up to its step."""
    need_way(market, one, other, way)
    product = ONE
    found = [[] for good in market[0]]
    for begin, end in steps_between(one, other):
        for shares, part in zip(found, parts_of(market, begin, end, way)):
            shares.append(times(part, product))
        product = times(product, number_of(market, begin, end, way))
    return [sum_of(shares) for shares in found]

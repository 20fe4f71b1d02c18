"""Points 39 and 40: markets, price numbers and their parts."""

import random
import unittest
from fractions import Fraction

from countveil.errors import NoMarket, NoTime, NoWay
from countveil.markets import chained, chained_parts, market_wrong, number, parts
from countveil.ratios import is_fraction
from tests.drawing import bent
from tests.samples import ANYTHING, refused_with

GOODS = ("bread", "milk")
PRICES = [[2, 3], [4, 3], [4, 6]]
AMOUNTS = [[1, 1], [2, 5], [0, 3]]
MARKET = (GOODS, PRICES, AMOUNTS)
NAMES = ("a", "bb", "ccc", "dddd", "eeeee", "ffffff", "ggggggg", "hhhhhhhh")
CALLS = (number, chained, parts, chained_parts)
NO_MARKETS = (
    *ANYTHING, list(MARKET), MARKET[:2], (*MARKET, []), (GOODS, [], []), (GOODS, PRICES, AMOUNTS[:2]),
    (list(GOODS), PRICES, AMOUNTS), (GOODS, PRICES, [[1, 1], [0, 0], [1, 1]]), (GOODS, [[0, 3], *PRICES[1:]], AMOUNTS),
)
NO_TIMES = (*[thing for thing in ANYTHING if thing.__class__ != int], -1, 3, 10 ** 29, True, False, "0", (0,), [0])
NO_WAYS = (*ANYTHING, "Old", "olds", "", ("old",), ["new"], "old new", True)


def draw_market(chance, goods=4, most=9, times=6):
    many = chance.randint(1, goods)
    long = chance.randint(1, times)
    prices = [[chance.randint(1, most) for _ in range(many)] for _ in range(long)]
    amounts = [[chance.choice((0, chance.randint(0, most))) for _ in range(many)] for _ in range(long)]
    for line in amounts:
        if not any(line):
            line[chance.randrange(many)] = chance.randint(1, most)
    return (tuple(chance.sample(NAMES, many)), prices, amounts)


def is_number(thing, least):
    return thing.__class__ == int and least <= thing <= 1000000


def market_look(thing):
    """What market_wrong should tell."""
    if thing.__class__ != tuple or len(thing) != 3 or [each.__class__ for each in thing[1:]] != [list, list]:
        return ("market",)
    goods, prices, amounts = thing
    if len(prices) != len(amounts) or not 1 <= len(prices) <= 24:
        return ("market",)
    if goods.__class__ != tuple or not 1 <= len(goods) <= 8 or any(good.__class__ != str for good in goods):
        return ("goods",)
    if len(set(goods)) < len(goods) or not all(1 <= len(good) <= 8 for good in goods):
        return ("goods",)
    if set("".join(goods)) - set("abcdefghijklmnopqrstuvwxyz"):
        return ("goods",)
    for word, lines, least in (("prices", prices, 1), ("amounts", amounts, 0)):
        for k, line in enumerate(lines):
            if line.__class__ != list or len(line) != len(goods) or not all(is_number(each, least) for each in line):
                return (word, k)
            if word == "amounts" and not any(line):
                return (word, k)
    return None


def second_number(market, one, other, way):
    amounts = market[2][{"old": one, "new": other}[way]]
    ahead = sum(price * amount for price, amount in zip(market[1][one], amounts))
    behind = sum(price * amount for price, amount in zip(market[1][other], amounts))
    return Fraction(behind, ahead)


def second_chained(market, one, other, way):
    """By going back from the end, one step each time."""
    if one == other:
        return Fraction(1)
    last = other - 1 if one < other else other + 1
    return second_chained(market, one, last, way) * second_number(market, last, other, way)


def second_part(market, one, other, way, good):
    """By how much the number is more where the prices of all other goods stay."""
    prices = [list(line) for line in market[1]]
    for g in range(len(market[0])):
        if g != good:
            prices[other][g] = prices[one][g]
    return second_number((market[0], prices, market[2]), one, other, way) - 1


def second_chained_part(market, one, other, way, good):
    if one == other:
        return Fraction(0)
    last = other - 1 if one < other else other + 1
    here = second_chained(market, one, last, way) * second_part(market, last, other, way, good)
    return second_chained_part(market, one, last, way, good) + here


def as_told(fraction):
    return (fraction.numerator, fraction.denominator)


def summed(told):
    assert all(is_fraction(each) for each in told)
    return sum(Fraction(*each) for each in told)


class MarketWrong(unittest.TestCase):
    def test_right_ones(self):
        chance = random.Random(390)
        self.assertIsNone(market_wrong(thing=MARKET))
        for _ in range(100):
            self.assertIsNone(market_wrong(draw_market(chance, 8, 10 ** 6, 24)))
        self.assertIsNone(market_wrong((("a",), [[1]], [[1]])))
        self.assertIsNone(market_wrong((NAMES, [[10 ** 6] * 8] * 24, [[0] * 7 + [10 ** 6]] * 24)))

    def test_the_market(self):
        for thing in (
            list(MARKET), MARKET[:2], (*MARKET, []), (GOODS, [], []), (GOODS, PRICES, AMOUNTS[:2]), (GOODS, PRICES[:2], AMOUNTS),
            (GOODS, tuple(PRICES), AMOUNTS), (GOODS, PRICES, tuple(AMOUNTS)),
            (None, [[1]] * 25, [[1]] * 25), (GOODS, None, AMOUNTS), (GOODS, PRICES, None), (None, (), ()), ((), "ab", "ab"),
        ):
            self.assertEqual(market_wrong(thing), ("market",), thing)
        for thing in ANYTHING:
            self.assertEqual(market_wrong(thing), market_look(thing), thing)

    def test_goods(self):
        for goods in (
            *ANYTHING[:-2], [], list(GOODS), ("bread", "bread"), ("bread", ""), ("bread", "abcdefghi"), ("bread", "Milk"),
            ("bread", None), ("bread", 1), ("bread", ["milk"]), (["a"], ["a"]), tuple("abcdefghi"), ("bread", "mi lk"),
        ):
            if goods != ("a",):
                self.assertEqual(market_wrong((goods, PRICES, AMOUNTS)), ("goods",), goods)
                self.assertEqual(market_wrong((goods, [None], [None])), ("goods",), goods)

    def test_prices_and_amounts(self):
        for line in (
            *ANYTHING, [], [1], [1, 2, 3], (1, 2), [1, -1], [1, 10 ** 6 + 1], [1, True], [1, None], [1, "2"], [1, [2]], "ab",
        ):
            self.assertEqual(market_wrong((GOODS, [line, *PRICES[1:]], AMOUNTS)), ("prices", 0), line)
            self.assertEqual(market_wrong((GOODS, [*PRICES[:2], line], AMOUNTS)), ("prices", 2), line)
            self.assertEqual(market_wrong((GOODS, [PRICES[0], line, line], [line] * 3)), ("prices", 1), line)
            self.assertEqual(market_wrong((GOODS, PRICES, [AMOUNTS[0], line, line])), ("amounts", 1), line)
        self.assertEqual(market_wrong((GOODS, [*PRICES[:2], [0, 1]], [None] * 3)), ("prices", 2))
        self.assertEqual(market_wrong((GOODS, PRICES, [*AMOUNTS[:2], [0, 0]])), ("amounts", 2))
        self.assertIsNone(market_wrong((GOODS, PRICES, [*AMOUNTS[:2], [0, 1]])))

    def test_bent_ones(self):
        chance = random.Random(391)
        seen = {}
        for _ in range(5000):
            thing = bent(chance, draw_market(chance, 3, 3, 3))
            expected = market_look(thing)
            self.assertEqual(market_wrong(thing), expected, thing)
            seen[expected and expected[0]] = seen.get(expected and expected[0], 0) + 1
        for word in (None, "market", "goods", "prices", "amounts"):
            self.assertGreater(seen[word], 100, seen)


class Refusals(unittest.TestCase):
    def test_no_market(self):
        for call in CALLS:
            for thing in NO_MARKETS:
                for behind in ((0, 1, "old"), (None, None, None)):
                    self.assertEqual(refused_with(call, thing, *behind), NoMarket, thing)

    def test_no_time(self):
        for call in CALLS:
            for thing in NO_TIMES:
                for way in ("old", None):
                    self.assertEqual(refused_with(call, MARKET, thing, 0, way), NoTime, thing)
                    self.assertEqual(refused_with(call, MARKET, 0, thing, way), NoTime, thing)
                    self.assertEqual(refused_with(call, MARKET, thing, thing, way), NoTime, thing)

    def test_no_way(self):
        for call in CALLS:
            for way in NO_WAYS:
                for one, other in ((0, 2), (2, 0), (1, 1)):
                    self.assertEqual(refused_with(call, MARKET, one, other, way), NoWay, way)


class Numbers(unittest.TestCase):
    def test_some(self):
        self.assertEqual(number(MARKET, 0, 1, "old"), (7, 5))
        self.assertEqual(number(MARKET, 0, 1, "new"), (23, 19))
        self.assertEqual(number(way="old", other=0, one=1, market=MARKET), (19, 23))
        self.assertEqual(chained(MARKET, 0, 2, "old"), (7 * 38, 5 * 23))
        self.assertEqual(chained(way="new", other=2, one=2, market=MARKET), (1, 1))
        self.assertEqual(parts(MARKET, 0, 1, "old"), [(2, 5), (0, 1)])
        self.assertEqual(parts(way="new", other=0, one=1, market=MARKET), [(-2, 7), (0, 1)])
        self.assertEqual(chained_parts(MARKET, 0, 2, "old"), [(2, 5), (21, 23)])
        self.assertEqual(chained_parts(way="old", other=1, one=1, market=MARKET), [(0, 1), (0, 1)])
        self.assertEqual(parts(MARKET, 1, 1, "new"), [(0, 1), (0, 1)])

    def test_drawn_ones(self):
        chance = random.Random(392)
        for _ in range(400):
            market = draw_market(chance, 4, chance.choice((4, 10 ** 6)), 5)
            for way in ("old", "new"):
                one, other = chance.randrange(len(market[1])), chance.randrange(len(market[1]))
                self.assertEqual(number(market, one, other, way), as_told(second_number(market, one, other, way)))
                self.assertEqual(chained(market, one, other, way), as_told(second_chained(market, one, other, way)))
                goods = range(len(market[0]))
                expected = [] if one == other else [as_told(second_part(market, one, other, way, g)) for g in goods]
                self.assertEqual(parts(market, one, other, way), expected or [(0, 1) for g in goods])
                expected = [as_told(second_chained_part(market, one, other, way, g)) for g in goods]
                self.assertEqual(chained_parts(market, one, other, way), expected)

    def test_parts_sum_to_the_number_less_1(self):
        chance = random.Random(400)
        for _ in range(200):
            market = draw_market(chance, 8, 10 ** 6, 24)
            one, other = chance.randrange(len(market[1])), chance.randrange(len(market[1]))
            for way in ("old", "new"):
                told = number(market, one, other, way)
                self.assertTrue(is_fraction(told))
                self.assertEqual(summed(parts(market, one, other, way)), Fraction(*told) - 1)
                told = chained(market, one, other, way)
                self.assertTrue(is_fraction(told))
                self.assertEqual(summed(chained_parts(market, one, other, way)), Fraction(*told) - 1)

    def test_there_and_back(self):
        chance = random.Random(401)
        for _ in range(200):
            market = draw_market(chance, 4, 20, 8)
            one, other = chance.randrange(len(market[1])), chance.randrange(len(market[1]))
            for call in (number, chained):
                there, back = call(market, one, other, "old"), call(market, other, one, "new")
                self.assertEqual(Fraction(*there) * Fraction(*back), 1)

    def test_one_time_twice(self):
        chance = random.Random(402)
        for _ in range(50):
            market = draw_market(chance)
            for time in range(len(market[1])):
                for way in ("old", "new"):
                    self.assertEqual(number(market, time, time, way), (1, 1))
                    self.assertEqual(chained(market, time, time, way), (1, 1))
                    for call in (parts, chained_parts):
                        self.assertEqual(call(market, time, time, way), [(0, 1)] * len(market[0]))


if __name__ == "__main__":
    unittest.main()

"""What several tests share: short ways to write ratios, an oracle in fractions, works and stops."""

import random
from fractions import Fraction
from itertools import combinations
from math import gcd

from firmstops.works import Work


def ratio(told):
    """The ratio of a whole number, a Fraction or a text such as -7/2."""
    one = Fraction(told)
    return (one.numerator, one.denominator)


def row(*told):
    """A tuple of ratios; one text with blanks may stand for several."""
    if len(told) == 1 and isinstance(told[0], str):
        told = told[0].split()
    return tuple(ratio(one) for one in told)


def rows(*told):
    """A tuple of rows of ratios."""
    return tuple(row(*one) if not isinstance(one, str) else row(one) for one in told)


def couples(text):
    """Couples of ratios from a text such as 0,0 4,0 0,3."""
    return tuple(row(*word.split(",")) for word in text.split())


def work(text):
    """A work from a text such as 0,0 4,0 0,3."""
    return Work(couples(text))


def stops(text):
    """Stops from a text such as 0:1/4 1:3/5."""
    return tuple((int(word.split(":")[0]), ratio(word.split(":")[1])) for word in text.split())


def value(one):
    """The Fraction of a ratio."""
    return Fraction(one[0], one[1])


def values(some):
    """The Fractions of a sequence of ratios."""
    return tuple(value(one) for one in some)


def product(one, other):
    """The Fraction that is the product of two rows of ratios."""
    return sum((value(a) * value(b) for a, b in zip(one, other)), Fraction(0))


def weighted(some, amounts):
    """The weighted sum of rows in Fractions."""
    return tuple(sum((value(a) * value(line[k]) for a, line in zip(amounts, some)), Fraction(0))
                 for k in range(len(some[0])))


def rank(some):
    """The rank of rows of ratios, by elimination in Fractions."""
    left = [[value(one) for one in line] for line in some]
    many = 0
    for k in range(len(left[0]) if left else 0):
        lead = next((line for line in left if line[k] != 0), None)
        if lead is None:
            continue
        left.remove(lead)
        many += 1
        left = [[a - b * line[k] / lead[k] for a, b in zip(line, lead)] for line in left]
    return many


def is_plain(some):
    """Whether a tuple of ratios is plain."""
    divisor = 0
    for top, bottom in some:
        if bottom != 1:
            return False
        divisor = gcd(divisor, top)
    return divisor == 1


def is_new_tuple(test, told):
    """Ask that a result is a tuple through and through, down to its numbers."""
    if isinstance(told, tuple):
        for one in told:
            is_new_tuple(test, one)
    else:
        test.assertTrue(told is None or isinstance(told, (int, str)), told)
        test.assertNotIsInstance(told, bool)


def bears_leanly(test, some, target, amounts):
    """Ask that amounts are a new tuple from 0 on, that they bear a target, and that they are lean."""
    is_new_tuple(test, amounts)
    test.assertEqual(len(amounts), len(some))
    test.assertTrue(all(value(one) >= 0 for one in amounts))
    test.assertEqual(row(*weighted(some, amounts)), tuple(target))
    borne = [line for line, one in zip(some, amounts) if one[0] > 0]
    test.assertEqual(rank(borne), len(borne))


NO_RATIOS = (
    None, 0, 1, True, "1", 0.5, (1,), (1, 1, 1), [1, 1], [1, 2], (1, 0), (1, -1), (2, 4), (0, 2), (-2, 2), (3, 3),
    (True, 1), (1, True), (False, 1), (1.0, 1), (1, 1.0), ("1", 1), (1, None), (), ((1, 1), (1, 1)), {1: 1}, (0, 0),
)

NO_SEQUENCES = (None, 0, True, "ab", "abc", b"abc", 1.5, {}, {0: 1}, {1, 2}, range(3), object())

TRIANGLE = "0,0 4,0 0,3"
SQUARE = "0,0 1,0 1,1 0,1"
BOX = "0,0 4,0 4,2 0,2"
SKEW = "0,0 5,1 6,4 2,6 -1,3"
EIGHT = "1,0 2,0 3,1 3,2 2,3 1,3 0,2 0,1"


def some_works():
    """Works with 3 to 8 corners, also with fractions and with great numbers."""
    great = 10 ** 180 + 7
    return (
        work(TRIANGLE), work(SQUARE), work(BOX), work(SKEW), work(EIGHT),
        work("-1/2,1/3 5/7,-2 9/4,11/5 1/6,3"),
        work("0,0 4,-1 7,1 7,4 4,6 1,5 -1,2"),
        work("3,0 5,2 4,5 1,5 0,2 1,1/2"),
        Work([row(Fraction(1, great), 0), row(great, Fraction(3, great + 2)), row(-5, great)]),
    )


def some_stops(told, seed, many):
    """Some stops of a work, the same ones for the same seed."""
    chance = random.Random(seed)
    found = []
    for _ in range(many):
        bottom = chance.choice((2, 3, 4, 5, 7, 10 ** 60 + 9))
        found.append((chance.randrange(len(told)), ratio(Fraction(chance.randrange(1, bottom), bottom))))
    return tuple(found)


def solution(columns, target):
    """The one solution in Fractions of equations with independent columns, or None."""
    lines = [[value(one) for one in line] + [value(aim)] for line, aim in zip(zip(*columns), target)]
    if not columns:
        return () if all(one[0] == 0 for one in target) else None
    done = []
    for k in range(len(columns)):
        lead = next((line for line in lines if line[k] != 0), None)
        if lead is None:
            return None
        lines = [line for line in lines if line is not lead]
        lead = [one / lead[k] for one in lead]
        lines = [[a - b * line[k] for a, b in zip(line, lead)] for line in lines]
        done = [[a - b * line[k] for a, b in zip(line, lead)] for line in done] + [lead]
    if any(line[-1] != 0 for line in lines):
        return None
    return tuple(line[-1] for line in done)


def lean_solutions(some, target):
    """All lean amounts in Fractions that bear a target, those of fewer rows first."""
    found = []
    for many in range(len(some[0]) + 1):
        for lot in combinations(range(len(some)), many):
            told = solution([some[at] for at in lot], target)
            if told is not None and all(one > 0 for one in told):
                amounts = [Fraction(0)] * len(some)
                for at, one in zip(lot, told):
                    amounts[at] = one
                found.append(tuple(amounts))
    return found


def some_systems(seed, rounds, most=6, widest=3):
    """Rows and targets of many kinds, small ones, some of them with great numbers, by a seed."""
    chance = random.Random(seed)
    found = []
    for at in range(rounds):
        many, width = chance.randrange(1, most + 1), chance.randrange(1, widest + 1)
        reach = chance.choice((1, 2, 5, 10 ** 120)) if at % 4 == 0 else chance.choice((1, 2, 3))
        bottom = chance.choice((1, 1, 3, 10 ** 50))
        some = [[Fraction(chance.randrange(-reach, reach + 1), bottom) for _ in range(width)] for _ in range(many)]
        if chance.randrange(3) == 0:
            some[chance.randrange(many)] = [Fraction(0)] * width
        if chance.randrange(3) == 0:
            some[-1] = [2 * one for one in some[0]]
        if chance.randrange(4) == 0 and width > 1:
            some = [line[:-1] + [line[0] - line[1]] for line in some]
        kind = chance.randrange(3)
        if kind == 0:
            target = [Fraction(chance.randrange(-3, 4)) for _ in range(width)]
        else:
            shares = [chance.randrange(0, 3) * (kind == 1) for _ in range(many)]
            target = [sum((a * line[k] for a, line in zip(shares, some)), Fraction(0)) for k in range(width)]
        found.append((tuple(row(*line) for line in some), row(*target)))
    return found

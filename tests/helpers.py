"""What several tests share: short ways to write ratios, an oracle in fractions, works and stops."""

import random
from fractions import Fraction
from itertools import combinations
from math import gcd

from firmstops.errors import BadStop, BadStretch
from firmstops.works import Work


def ratio(told):
    """The ratio of a whole number, a Fraction or a text such as -7/2."""
    one = Fraction(told)
    return (one.numerator, one.denominator)


def row(*told):
    """A tuple of ratios; one text with blanks may stand for several."""
    if len(told) == 1 and isinstance(told[0], str):
        told = told[0].split()
    return tuple(ratio(one) for one in told)


def rows(*told):
    """A tuple of rows of ratios."""
    return tuple(row(*one) if not isinstance(one, str) else row(one) for one in told)


def couples(text):
    """Couples of ratios from a text such as 0,0 4,0 0,3."""
    return tuple(row(*word.split(",")) for word in text.split())


def work(text):
    """A work from a text such as 0,0 4,0 0,3."""
    return Work(couples(text))


def stops(text):
    """Stops from a text such as 0:1/4 1:3/5."""
    return tuple((int(word.split(":")[0]), ratio(word.split(":")[1])) for word in text.split())


def value(one):
    """The Fraction of a ratio."""
    return Fraction(one[0], one[1])


def values(some):
    """The Fractions of a sequence of ratios."""
    return tuple(value(one) for one in some)


def product(one, other):
    """The Fraction that is the product of two rows of ratios."""
    return sum((value(a) * value(b) for a, b in zip(one, other)), Fraction(0))


def weighted(some, amounts):
    """The weighted sum of rows in Fractions."""
    return tuple(sum((value(a) * value(line[k]) for a, line in zip(amounts, some)), Fraction(0))
                 for k in range(len(some[0])))


def rank(some):
    """The rank of rows of ratios, by elimination in Fractions."""
    left = [[value(one) for one in line] for line in some]
    many = 0
    for k in range(len(left[0]) if left else 0):
        lead = next((line for line in left if line[k] != 0), None)
        if lead is None:
            continue
        left.remove(lead)
        many += 1
        left = [[a - b * line[k] / lead[k] for a, b in zip(line, lead)] for line in left]
    return many


def is_plain(some):
    """Whether a tuple of ratios is plain."""
    divisor = 0
    for top, bottom in some:
        if bottom != 1:
            return False
        divisor = gcd(divisor, top)
    return divisor == 1


def is_new_tuple(test, told):
    """Ask that a result is a tuple through and through, down to its numbers."""
    if isinstance(told, tuple):
        for one in told:
            is_new_tuple(test, one)
    else:
        test.assertTrue(told is None or isinstance(told, (int, str)), told)
        test.assertNotIsInstance(told, bool)


def bears_leanly(test, some, target, amounts):
    """Ask that amounts are a new tuple from 0 on, that they bear a target, and that they are lean."""
    is_new_tuple(test, amounts)
    test.assertEqual(len(amounts), len(some))
    test.assertTrue(all(value(one) >= 0 for one in amounts))
    test.assertEqual(row(*weighted(some, amounts)), tuple(target))
    borne = [line for line, one in zip(some, amounts) if one[0] > 0]
    test.assertEqual(rank(borne), len(borne))


NO_RATIOS = (
    None, 0, 1, True, "1", 0.5, (1,), (1, 1, 1), [1, 1], [1, 2], (1, 0), (1, -1), (2, 4), (0, 2), (-2, 2), (3, 3),
    (True, 1), (1, True), (False, 1), (1.0, 1), (1, 1.0), ("1", 1), (1, None), (), ((1, 1), (1, 1)), {1: 1}, (0, 0),
)

NO_SEQUENCES = (None, 0, True, "ab", "abc", b"abc", 1.5, {}, {0: 1}, {1, 2}, range(3), object())



class Alike:
    """A thing that is equal to everything."""

    def __eq__(self, other):
        return True


def no_numbers(many):
    """Things that are no sequences of so many ratios."""
    wrong = [(thing,) + (ratio(1),) * (many - 1) for thing in NO_RATIOS]
    wrong += [[ratio(1)] * (many - 1) + [thing] for thing in NO_RATIOS]
    return wrong + list(NO_SEQUENCES) + [(), [], (1,) * many, (ratio(1),) * (many - 1), (ratio(1),) * (many + 1)]


NO_COUPLES = tuple(no_numbers(2))
NO_DIRECTIONS = NO_COUPLES + (((0, 1), (0, 1)), [(0, 1), (0, 1)])
NO_MOTIONS = tuple(no_numbers(3))
NO_WAYS = (Alike(), None, 0, 1, True, "", "Left", "RIGHT", "left ", "straight", b"left", ("left",), ["left"], {}, "l")
NO_SIDES = (-1, 3, 8, True, False, None, 1.0, "0", (0, 1), [0])

# Things that are no stops of a triangle, with the index and the word that tell why.
NO_STOPS = (
    (None, 0, "many"), ("0:1/2", 0, "many"), ([(0, (1, 2))] * 9, 0, "many"), ([None] * 9, 0, "many"),
    ([(0, (1, 2)), 7], 1, "stop"), ([(0, (1, 2), (1, 2)), None], 0, "stop"), ([(3, (1, 2))], 0, "side"),
    ([(0, (1, 2)), (True, (1, 1))], 1, "side"), ([(0, (1, 2)), (0, (1, 2)), (1, (1, 1))], 2, "spot"),
    ([(0, (2, 4)), (9, None)], 0, "spot"),
)


def refused(test, error, ask, *attributes):
    """Ask that a call raises an error with just these attributes, in the order of the interface."""
    with test.assertRaises(error) as caught:
        ask()
    test.assertIs(caught.exception.__class__, error)
    test.assertEqual(tuple(vars(caught.exception).values()), attributes)


def refuses_stops(test, *asks):
    """Ask that functions of the stops of a triangle check them as check_stops does."""
    for ask in asks:
        for some, index, what in NO_STOPS:
            refused(test, BadStop, lambda: ask(some), index, what)


def is_result(test, make, attributes, others):
    """Ask that a result keeps what it is given, and is equal to its like alone.

    `attributes` is a dict of names and things, `others` things of which each stands for any of them once.
    """
    names, things = tuple(attributes), tuple(attributes.values())
    told = make(*things)
    test.assertEqual(tuple(vars(told)), names)
    for name, thing in attributes.items():
        test.assertIs(getattr(told, name), thing)
    test.assertTrue(told == make(*things))
    test.assertTrue(make(**attributes) == told)
    test.assertFalse(told != make(*things))
    for at in range(len(things)):
        for other in others:
            test.assertFalse(told == make(*things[:at], other, *things[at + 1:]), (make, names[at]))
    for thing in (None, 0, "x", things, attributes, object()):
        test.assertFalse(told == thing)


TRIANGLE = "0,0 4,0 0,3"
SQUARE = "0,0 1,0 1,1 0,1"
BOX = "0,0 4,0 4,2 0,2"
SKEW = "0,0 5,1 6,4 2,6 -1,3"
EIGHT = "1,0 2,0 3,1 3,2 2,3 1,3 0,2 0,1"


def some_works():
    """Works with 3 to 8 corners, also with fractions and with great numbers."""
    great = 10 ** 180 + 7
    return (
        work(TRIANGLE), work(SQUARE), work(BOX), work(SKEW), work(EIGHT),
        work("-1/2,1/3 5/7,-2 9/4,11/5 1/6,3"),
        work("0,0 4,-1 7,1 7,4 4,6 1,5 -1,2"),
        work("3,0 5,2 4,5 1,5 0,2 1,1/2"),
        Work([row(Fraction(1, great), 0), row(great, Fraction(3, great + 2)), row(-5, great)]),
    )


def some_stops(told, seed, many):
    """Some stops of a work, the same ones for the same seed."""
    chance = random.Random(seed)
    found = []
    for _ in range(many):
        bottom = chance.choice((2, 3, 4, 5, 7, 10 ** 60 + 9))
        found.append((chance.randrange(len(told)), ratio(Fraction(chance.randrange(1, bottom), bottom))))
    return tuple(found)


def solution(columns, target):
    """The one solution in Fractions of equations with independent columns, or None."""
    lines = [[value(one) for one in line] + [value(aim)] for line, aim in zip(zip(*columns), target)]
    if not columns:
        return () if all(one[0] == 0 for one in target) else None
    done = []
    for k in range(len(columns)):
        lead = next((line for line in lines if line[k] != 0), None)
        if lead is None:
            return None
        lines = [line for line in lines if line is not lead]
        lead = [one / lead[k] for one in lead]
        lines = [[a - b * line[k] for a, b in zip(line, lead)] for line in lines]
        done = [[a - b * line[k] for a, b in zip(line, lead)] for line in done] + [lead]
    if any(line[-1] != 0 for line in lines):
        return None
    return tuple(line[-1] for line in done)


def lean_solutions(some, target):
    """All lean amounts in Fractions that bear a target, those of fewer rows first."""
    found = []
    for many in range(len(some[0]) + 1):
        for lot in combinations(range(len(some)), many):
            told = solution([some[at] for at in lot], target)
            if told is not None and all(one > 0 for one in told):
                amounts = [Fraction(0)] * len(some)
                for at, one in zip(lot, told):
                    amounts[at] = one
                found.append(tuple(amounts))
    return found


def some_systems(seed, rounds, most=6, widest=3):
    """Rows and targets of many kinds, small ones, some of them with great numbers, by a seed."""
    chance = random.Random(seed)
    found = []
    for at in range(rounds):
        many, width = chance.randrange(1, most + 1), chance.randrange(1, widest + 1)
        reach = chance.choice((1, 2, 5, 10 ** 120)) if at % 4 == 0 else chance.choice((1, 2, 3))
        bottom = chance.choice((1, 1, 3, 10 ** 50))
        some = [[Fraction(chance.randrange(-reach, reach + 1), bottom) for _ in range(width)] for _ in range(many)]
        if chance.randrange(3) == 0:
            some[chance.randrange(many)] = [Fraction(0)] * width
        if chance.randrange(3) == 0:
            some[-1] = [2 * one for one in some[0]]
        if chance.randrange(4) == 0 and width > 1:
            some = [line[:-1] + [line[0] - line[1]] for line in some]
        kind = chance.randrange(3)
        if kind == 0:
            target = [Fraction(chance.randrange(-3, 4)) for _ in range(width)]
        else:
            shares = [chance.randrange(0, 3) * (kind == 1) for _ in range(many)]
            target = [sum((a * line[k] for a, line in zip(shares, some)), Fraction(0)) for k in range(width)]
        found.append((tuple(row(*line) for line in some), row(*target)))
    return found


def crossed(one, other):
    """The Fractions of the cross product of two rows of three ratios."""
    (a, b, c), (d, e, f) = values(one), values(other)
    return (b * f - c * e, c * d - a * f, a * e - b * d)


def is_free_of(lines, motion):
    """Whether a motion, told in Fractions, has no product below 0 with rows of ratios."""
    return all(sum(value(a) * b for a, b in zip(line, motion)) >= 0 for line in lines)


def are_firm(lines):
    """Whether only rest is free of rows of three ratios: rank 3, and no edge is free."""
    if rank(lines) < 3:
        return False
    for one, other in combinations(lines, 2):
        for sign in (1, -1):
            motion = tuple(sign * a for a in crossed(one, other))
            if any(motion) and is_free_of(lines, motion):
                return False
    return True


def is_balance(lines, amounts):
    """Whether amounts above 0, one for each row, have a weighted sum of zeros."""
    return len(amounts) == len(lines) and all(one[0] > 0 for one in amounts) and not any(weighted(lines, amounts))


def meetings(halves):
    """The places, in Fractions, at which two lines of halves meet that are of all halves."""
    told = [values(half) for half in halves]
    found = set()
    for (a, b, c), (d, e, f) in combinations(told, 2):
        turn = a * e - b * d
        if turn != 0:
            x, y = (c * e - f * b) / turn, (a * f - d * c) / turn
            if all(p * x + q * y >= r for p, q, r in told):
                found.add((x, y))
    return found


def fill_an_area(places):
    """Whether some three places, in Fractions, are not on one line."""
    return any((c - a) * (f - b) != (d - b) * (e - a) for (a, b), (c, d), (e, f) in combinations(places, 3))


NO_SWINGS = NO_RATIOS + ((-1, 1), (-1, 10 ** 300))
SWINGS = ("0", "1/1000", "1/3", "1", "5/2")


def turned_by(place, centre, way, swing):
    """The place, in Fractions, after a turn about a centre whose half angle has the tangent swing."""
    (x, y), (a, b), k = values(place), values(centre), value(swing)
    cosine, sine = (1 - k * k) / (1 + k * k), 2 * k / (1 + k * k) * (1 if way == "left" else -1)
    return (a + (x - a) * cosine - (y - b) * sine, b + (x - a) * sine + (y - b) * cosine)


def are_past(told, some, corners):
    """The indices of the stops that are past their own side of a work with other corners, in Fractions."""
    found = []
    for at, (side, spot) in enumerate(some):
        (a, b), (c, d) = corners[side], corners[(side + 1) % len(told)]
        x, y = values(told.place_at(side, spot))
        if (c - a) * (y - b) - (d - b) * (x - a) > 0:
            found.append(at)
    return tuple(found)


def past_after(told, some, centre, way, swing):
    """The indices of the stops that are past their own side after a turn, in Fractions."""
    return are_past(told, some, [turned_by(corner, centre, way, swing) for corner in told.corners])


def hold_cases(most=6):
    """Works and stops: some by chance, and some that were chosen by hand, also works held by bend."""
    for told in some_works():
        for many in range(most + 1):
            yield told, some_stops(told, 200 + many, many)
            yield told, some_stops(told, 210 + many, many)
    for text, some in HOLD_CASES:
        yield work(text), stops(some)


HOLD_CASES = (
    (TRIANGLE, "0:1/4 1:3/5 2:2/3"), (TRIANGLE, "0:1/2 1:3/5 2:2/3"), (TRIANGLE, "0:1/8 1:3/5 2:2/3"),
    (TRIANGLE, "0:1/8 1:3/5 2:2/3 0:1/2"), (TRIANGLE, "0:1/4 0:1/8 1:3/5 2:2/3"),
    (BOX, "0:1/2 1:1/2 2:1/2 3:1/2"), (BOX, "0:1/2 1:1/2 2:1/4 3:3/4"), (BOX, "0:1/2 1:1/2 2:3/4 3:3/4"),
    (BOX, "0:1/2 1:1/2 2:3/4 3:1/4"), (BOX, "0:1/2 1:1/2 2:1/2 3:3/4"), (BOX, "0:1/2 1:1/2 2:1/2 3:1/4"),
    (BOX, "0:1/4 0:3/4 2:1/2 1:1/2 3:1/2"), (BOX, "0:1/2 2:1/2"), (BOX, "0:1/2 2:1/2 1:1/4"), (BOX, "3:1/2"),
    (BOX, "0:1/8 0:1/4 1:1/2 2:7/8 2:3/4 3:1/2"), (BOX, ""), (SKEW, "0:1/2 1:1/2 2:1/2 3:1/2 4:1/2"),
    (SQUARE, "0:1/3 1:1/3 2:2/3 3:2/3"), (SQUARE, "0:1/3 1:1/3 2:1/3 3:1/3 0:1/3 1:1/3 2:1/3 3:1/3"),
)


def stretches(text):
    """Stretches from a text such as 0:1/4:1/2 1:0:1."""
    told = [word.split(":") for word in text.split()]
    return tuple((int(side), ratio(low), ratio(high)) for side, low, high in told)


def some_stretches(told, seed, many, closed=True, wide=False):
    """Some stretches of a work, the same ones for the same seed; open ones may reach the corners."""
    chance = random.Random(seed)
    found = []
    while len(found) < many:
        bottom = chance.choice((4, 5, 8, 12, 10 ** 40 + 7))
        ends = [chance.randrange(closed, bottom + 1 - closed) for _ in range(2)]
        low, high = min(ends), max(ends)
        if chance.randrange(4) == 0:
            high = min(low + 1, bottom - closed)
        if low < bottom and high > 0 and not (wide and low == high):
            found.append((chance.randrange(len(told)), ratio(Fraction(low, bottom)), ratio(Fraction(high, bottom))))
    return tuple(found)


# Things that are no stretches of a triangle, with the index and the word that tell why.
NO_STRETCHES = (
    (None, 0, "many"), ("0:0:1", 0, "many"), ((), 0, "many"), ([(0, (0, 1), (1, 1))] * 7, 0, "many"),
    ({}, 0, "many"), ([None] * 7, 0, "many"),
    ([None], 0, "stretch"), ([(0, (0, 1), (1, 1)), (0, (0, 1))], 1, "stretch"), ([(0, (0, 1), (1, 1), 7)], 0, "stretch"),
    ([(0, (0, 1), (1, 1)), "abc"], 1, "stretch"), ([(3, (0, 1), (1, 1))], 0, "side"), ([(-1, None, None)], 0, "side"),
    ([(True, (0, 1), (1, 1))], 0, "side"), ([(None, (0, 1), (1, 1)), None], 0, "side"),
    ([(0, (0, 1), (1, 1)), [1, (1, 1), (1, 1)]], 1, "low"), ([(0, (-1, 9), (1, 1))], 0, "low"),
    ([(0, (2, 4), None)], 0, "low"), ([(0, 0, (1, 1))], 0, "low"), ([(0, None, None)], 0, "low"),
    ([(0, (0, 1), (0, 1))], 0, "high"), ([(0, (1, 2), (1, 3))], 0, "high"), ([(0, (0, 1), (3, 2))], 0, "high"),
    ([(0, (0, 1), (1, 1)), (0, (1, 2), None)], 1, "high"), ([(0, (0, 1), 1)], 0, "high"),
    ([(0, (0, 1), (2, 2))], 0, "high"), ([(0, (1, 2), (-1, 2))], 0, "high"),
)


def refuses_stretches(test, *asks):
    """Ask that functions of the stretches of a triangle check them as check_stretches does."""
    for ask in asks:
        for some, index, what in NO_STRETCHES:
            refused(test, BadStretch, lambda: ask(some), index, what)


def refuses_open(test, *asks):
    """Ask that functions of the stretches of a triangle check them as check_closed does."""
    refuses_stretches(test, *asks)
    for ask in asks:
        for text, index in (("0:0:1", 0), ("0:1/4:1/2 1:0:1/2", 1), ("0:1/4:1/2 0:1/8:1 1:0:1", 1), ("2:1/2:1", 0)):
            refused(test, BadStretch, lambda: ask(stretches(text)), index, "corner")
        late = [stretches("0:0:1")[0], (0, (1, 2), None)]
        refused(test, BadStretch, lambda: ask(late), 1, "high")


def around_stops(some, by):
    """Stretches around some stops: each spot less and more a part of its room to the corners."""
    found = []
    for side, spot in some:
        room = min(value(spot), 1 - value(spot)) * by
        found.append((side, ratio(value(spot) - room), ratio(value(spot) + room)))
    return tuple(found)


def spot_cases():
    """Works with closed stretches: some by chance, some narrow ones around stops that may be firm."""
    for at, told in enumerate(some_works()):
        # Great numbers in many stretches take long.
        most = 3 if at == 8 else 5 + at % 2
        for many in range(1 + at % 3, most + 1, 2):
            yield told, some_stretches(told, 290 + many, many)
        for seed in range(3):
            yield told, around_stops(some_stops(told, 300 + seed + at, min(4 + seed, most)), Fraction(seed, 50))
    for text, some in HOLD_CASES:
        if 1 <= len(stops(some)) <= 6:
            yield work(text), around_stops(stops(some), 0)
            yield work(text), around_stops(stops(some), Fraction(1, 1000))


TINY = Fraction(1, 10 ** 700)


def is_range(test, found, holds):
    """Ask of a range (low, high), None for no least, no greatest or no number at all, that a test holds just within."""
    tries = [Fraction(0), Fraction(1), Fraction(-1), Fraction(1, 3), Fraction(10 ** 60), Fraction(-10 ** 60)]
    low, high = found or (None, None)
    is_new_tuple(test, found)
    for end in (low, high):
        if end is not None:
            tries += [value(end), value(end) - TINY, value(end) + TINY]
    if low is not None and high is not None:
        test.assertLessEqual(value(low), value(high))
        tries.append((value(low) + value(high)) / 2)
    for one in tries:
        inside = found is not None and (low is None or value(low) <= one) and (high is None or one <= value(high))
        test.assertEqual(holds(ratio(one)), inside, (found, one))


def with_further(pull, further, by):
    """A pull plus a ratio times a further pull."""
    return row(*[a + value(by) * b for a, b in zip(values(pull), values(further))])


def some_pulls(seed, many, lines=()):
    """Pulls of all kinds, the rest pull among them, some of them borne by rows, some just at the rim of these."""
    chance = random.Random(seed)
    found = [row("0 0 0"), row("0 -1 -2"), row("1 0 0"), row("0 0 1")]
    for _ in range(many):
        reach = chance.choice((2, 4, 10 ** 100))
        pull = [Fraction(chance.randrange(-reach, reach + 1), chance.randrange(1, 4)) for _ in range(3)]
        if lines and chance.randrange(2):
            shares = [ratio(chance.choice((0, 0, 1, Fraction(1, 3)))) for _ in lines]
            pull = [-one for one in weighted(lines, shares)]
        found.append(row(*pull))
    return found


def beside(told, side, first, last, kind):
    """A work of a kind on the other hand of a side's line, with a side from spot last to spot first of it."""
    begin, end = values(told.place_at(side, ratio(last))), values(told.place_at(side, ratio(first)))
    x, y = values(told.normals[side])
    deep = [(end[0] - x * deep, end[1] - y * deep) for deep in (Fraction(1, 3), Fraction(3, 2))]
    back = (begin[0] - x * Fraction(2, 3), begin[1] - y * Fraction(2, 3))
    corners = {
        "three": (begin, end, deep[1]), "four": (begin, end, deep[0], back),
        "wide": (begin, end, (end[0] - (begin[0] - end[0]) - x, end[1] - (begin[1] - end[1]) - y), back),
    }[kind]
    return Work([row(*corner) for corner in corners])


BESIDE = (("0", "1"), ("1/4", "3/4"), ("0", "1/2"), ("1/3", "1"), ("-1/2", "1/2"), ("2/3", "5/4"), ("-1", "2"))


def some_touching(seed):
    """Couples of works that touch along a whole side or a part of one, the spots of the shared ends with them."""
    chance = random.Random(seed)
    for told in some_works():
        for first, last in BESIDE:
            side, kind = chance.randrange(len(told)), chance.choice(("three", "four", "wide"))
            other = beside(told, side, Fraction(first), Fraction(last), kind)
            other = other.begun_at(chance.randrange(len(other)))
            yield told, other, side, (max(Fraction(first), Fraction(0)), min(Fraction(last), Fraction(1)))


def pair_stops(one, other, seed):
    """Stops for two works, 0 to 6 of each: by chance, or one in the midst of each side, or both kinds."""
    chance = random.Random(seed)
    for low in (0, 2, 3, 4, 6):
        found = []
        for told in (one, other):
            many = min(6, low + chance.randrange(3))
            each = tuple((side, (1, 2)) for side in range(len(told)))
            found.append(chance.choice((some_stops(told, seed + low, many), each[:6], (each + each)[:many])))
        yield tuple(found)

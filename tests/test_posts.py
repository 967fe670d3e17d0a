"""[9.3], [9.4], [9.5]: posts, what the work comes over on its way, ways in, and paths."""

import random
import unittest
from fractions import Fraction

from firmstops.errors import BadDirection, BadPosts, BadSlides
from firmstops.motions import plain_direction
from firmstops.places import place_minus
from firmstops.posts import barred_arc, can_come, check_posts, first_met, path_block, ways_in, within_while
from firmstops.sliding import slid_from
from firmstops.works import Work

from helpers import BOX, NO_COUPLES, NO_DIRECTIONS, NO_SEQUENCES, SQUARE, TRIANGLE
from helpers import couples, is_new_tuple, is_plain, product, ratio, refused, row, some_works, value, values, work

GREAT = 10 ** 280 + 3
TINY = Fraction(1, 10 ** 90)
ALL_ROUND = tuple(row(x, y) for x in range(-3, 4) for y in range(-3, 4) if (x, y) != (0, 0))
RIM = couples("0,0 2,0 4,0 4,1 4,2 1,2 0,2 0,3/2")
FAR = couples("-1,1 9,1 2,-1 2,5 -3,-3 6,7 5,0 -4,0")

NO_POSTS = [(thing, 0, "many") for thing in NO_SEQUENCES] + [
    ([row("0 0")] * 13, 0, "many"), ([None] * 13, 0, "many"), ([row("1 1"), None], 0, "within"),
    ([None, row("1 1")], 0, "place"), ([row("0 0"), row("2 1")], 1, "within"), ([row("0 0"), (0, 0)], 1, "place"),
    ([row("0 0"), row("9 9"), row("0 0 0")], 2, "place"), ([list(row("1 1"))], 0, "within"),
]


def random_posts(told, seed, many):
    """Posts of a work: corners, places of the rim, and others, also far ones."""
    chance, found = random.Random(seed), []
    while len(found) < many:
        kind, reach = chance.randrange(4), chance.choice((3, 8, 10 ** 40))
        post = row(chance.randrange(-reach, reach + 1), Fraction(chance.randrange(-reach, reach + 1), 3))
        if kind == 0:
            post = chance.choice(told.corners)
        elif kind == 1:
            post = told.place_at(chance.randrange(len(told)), ratio(Fraction(chance.randrange(-1, 9), 4)))
        if not told.is_within(post):
            found.append(post)
    return tuple(found)


def cases():
    for at, told in enumerate(some_works()):
        yield told, random_posts(told, 470 + at, 6)
    yield work(BOX), RIM + FAR[:4]
    yield work(BOX), FAR


def while_by_hand(told, post, direction):
    """The fars, in Fractions, between which a post is strictly within the slid work, or None."""
    lows, highs = [], []
    for side in range(len(told)):
        height, rise = value(told.value_at(side, post)), product(told.normals[side], direction)
        if rise > 0:
            lows.append(-height / rise)
        elif rise < 0:
            highs.append(-height / rise)
        elif height <= 0:
            return None
    first, last = max(lows), min(highs)
    return (first, last) if first < last and last > 0 else None


def refuses_posts(test, ask):
    """Ask that a function of posts of the box checks them."""
    for thing, index, what in NO_POSTS:
        refused(test, BadPosts, lambda: ask(thing), index, what)


def refuses_post(test, ask):
    """Ask that a function of one post of the box checks it."""
    for thing in NO_COUPLES:
        refused(test, BadPosts, lambda: ask(thing), 0, "place")
    for place in (row("1 1"), row(Fraction(1, GREAT), Fraction(1, GREAT))):
        refused(test, BadPosts, lambda: ask(place), 0, "within")


class CheckPosts(unittest.TestCase):

    def test_by_hand(self):
        told = work(BOX)
        for posts in ((), RIM, FAR, RIM + FAR[:4], RIM[:1] * 12):
            found = check_posts(told, [list(post) for post in posts])
            is_new_tuple(self, found)
            self.assertEqual(found, posts)
            self.assertEqual(check_posts(told, posts), posts)

    def test_refuses(self):
        refuses_posts(self, lambda posts: check_posts(work(BOX), posts))


class WithinWhile(unittest.TestCase):

    def test_by_hand(self):
        told = work(BOX)
        self.assertEqual(within_while(told, row("2 -1"), row("0 1")), row("1 3"))
        self.assertEqual(within_while(told, [ratio(2), ratio(-1)], list(row("0 2"))), row("1/2 3/2"))
        self.assertIsNone(within_while(told, row("2 -1"), row("0 -1")))
        # A post of the rim is within at once, and only if the work comes over it.
        self.assertEqual(within_while(told, row("2 0"), row("1 1")), row("0 2"))
        self.assertEqual(within_while(told, row("0 0"), row("1 1")), row("0 2"))
        self.assertIsNone(within_while(told, row("0 0"), row("1 -1")))
        # Posts that touch the rim of the slid work alone.
        self.assertIsNone(within_while(told, row("4 -1"), row("0 1")))
        self.assertIsNone(within_while(told, row("2 0"), row("1 0")))
        self.assertIsNone(within_while(told, row("5 1"), row("-1 -1")))

    def test_all(self):
        some = none = 0
        for told, posts in cases():
            for post in posts:
                for direction in ALL_ROUND[::4] + self.touching(told, post):
                    found, expected = within_while(told, post, direction), while_by_hand(told, post, direction)
                    is_new_tuple(self, found)
                    self.assertEqual(found, None if expected is None else row(*expected))
                    self.slid_over(told, post, direction, found)
                    some, none = some + (found is not None), none + (found is None)
        self.assertGreater(min(some, none), 50)

    def touching(self, told, post):
        return tuple(place_minus(corner, post) for corner in told.corners if corner != post)

    def slid_over(self, told, post, direction, found):
        first, last = (Fraction(1), Fraction(1)) if found is None else values(found)
        self.assertTrue(found is None or 0 <= first < last)
        for far in (first, last, first + TINY, last - TINY, (first + last) / 2, last + TINY):
            if far >= 0:
                within = slid_from(told, direction, ratio(far)).is_within(post)
                self.assertEqual(within, found is not None and first < far < last)

    def test_great_numbers(self):
        told = Work([row(0, 0), row(GREAT, 0), row(GREAT, 1), row(0, 1)])
        self.assertEqual(within_while(told, row(1, -GREAT), row(0, Fraction(1, GREAT))),
                         row(GREAT ** 2, GREAT ** 2 + GREAT))

    def test_refuses(self):
        for thing in NO_DIRECTIONS:
            refused(self, BadDirection, lambda: within_while(work(BOX), None, thing))
        refuses_post(self, lambda post: within_while(work(BOX), post, row("1 0")))


class FirstMet(unittest.TestCase):

    def test_by_hand(self):
        told = work(BOX)
        self.assertIsNone(first_met(told, (), row("1 0")))
        self.assertEqual(first_met(told, couples("2,-1 2,-5 1,-5 2,-2"), row("0 1")), (1, ratio(7)))
        self.assertEqual(first_met(told, [list(post) for post in couples("9,9 2,-1")], row("0 2")), (1, ratio("3/2")))
        self.assertIsNone(first_met(told, couples("4,-1 0,-9 2,2"), row("0 1")))

    def test_all(self):
        for told, posts in cases():
            for some in (posts, posts[:4] + posts[:3], ()):
                for direction in ALL_ROUND[::3]:
                    known = [(while_by_hand(told, post, direction), at) for at, post in enumerate(some)]
                    known = [(-told_of[1], at) for told_of, at in known if told_of is not None]
                    expected = None if not known else (min(known)[1], ratio(-min(known)[0]))
                    self.assertEqual(first_met(told, some, direction), expected)
                    is_new_tuple(self, first_met(told, some, direction))

    def test_refuses(self):
        for ask in (first_met, can_come):
            for thing in NO_DIRECTIONS:
                refused(self, BadDirection, lambda: ask(work(BOX), None, thing))
            refuses_posts(self, lambda posts: ask(work(BOX), posts, row("1 0")))


def turned_left(direction, by=1):
    """A direction turned a little to the left."""
    x, y = values(direction)
    return row(x - by * TINY * y, y + by * TINY * x)


class BarredArc(unittest.TestCase):

    def test_by_hand(self):
        told = work(BOX)
        self.assertEqual(barred_arc(told, row("2 0")), (row("1 0"), row("-1 0")))
        self.assertEqual(barred_arc(told, row("4 1")), (row("0 1"), row("0 -1")))
        self.assertEqual(barred_arc(told, row("0 0")), (row("1 0"), row("0 1")))
        self.assertEqual(barred_arc(told, [ratio(2), ratio(-1)]), (row("2 1"), row("-2 1")))
        self.assertEqual(barred_arc(told, row("-1 0")), (row("1 0"), row("1 2")))
        self.assertEqual(barred_arc(told, row(-GREAT, 0)), (row("1 0"), row(GREAT, 2)))
        self.assertEqual(barred_arc(work(TRIANGLE), row("2 3/2")), (row("-4 3"), row("4 -3")))
        self.assertEqual(barred_arc(told, row("-2 -1/2")), (row("12 1"), row("4 5")))

    def test_arcs(self):
        halves = 0
        for told, posts in cases():
            for post in posts:
                found = barred_arc(told, post)
                is_new_tuple(self, found)
                right, left = found
                self.assertTrue(is_plain(right) and is_plain(left))
                for direction in (right, left, turned_left(right, -1), turned_left(left)):
                    self.assertIsNone(within_while(told, post, direction))
                for direction in (turned_left(right), turned_left(left, -1)):
                    self.assertIsNotNone(within_while(told, post, direction))
                bend = product(right, row(value(left[1]), -value(left[0])))
                on_side = [side for side in range(len(told))
                           if told.value_at(side, post) == (0, 1) and post in told and post not in told.corners]
                self.assertEqual(bend == 0, bool(on_side))
                self.assertGreaterEqual(bend, 0)
                if on_side:
                    self.assertEqual(right, plain_direction(told.side_of(on_side[0])))
                    self.assertLess(product(right, left), 0)
                    halves += 1
        self.assertGreater(halves, 8)

    def test_refuses(self):
        refuses_post(self, lambda post: barred_arc(work(BOX), post))


def angle_key(direction):
    """A key that orders directions by their angle from (1, 0) on, going left."""
    x, y = values(direction)
    upper = y > 0 or (y == 0 and x > 0)
    if x == 0:
        return (0 if upper else 1, 1, Fraction(0))
    # Within each half, the angle grows with the opposite of x / |y|; (1, 0) and (-1, 0) come first.
    return (0 if upper else 1, 0 if y == 0 else 1, Fraction(0) if y == 0 else -x / abs(y) * (1 if y > 0 else -1))


def is_in_arc(arc, direction):
    """Whether a direction is in an arc, going left from its right end to its left one, both included."""
    low, high, own = angle_key(arc[0]), angle_key(arc[1]), angle_key(direction)
    return low <= own <= high if low <= high else own >= low or own <= high


class WaysIn(unittest.TestCase):

    def test_by_hand(self):
        told = work(BOX)
        self.assertEqual(ways_in(told, ()), ("all",))
        self.assertEqual(ways_in(told, []), ("all",))
        self.assertEqual(ways_in(told, couples("2,0")), ((row("-1 0"), row("1 0")),))
        self.assertEqual(ways_in(told, couples("2,0 2,2")), ((row("1 0"), row("1 0")), (row("-1 0"), row("-1 0"))))
        self.assertEqual(ways_in(told, couples("2,0 2,2 4,1")), ((row("1 0"), row("1 0")),))
        self.assertEqual(ways_in(told, couples("2,0 2,2 4,1 0,1")), ())
        self.assertEqual(ways_in(told, couples("0,0")), ((row("0 1"), row("1 0")),))
        self.assertEqual(ways_in(told, couples("2,-1 2,3")), ((row("-2 1"), row("-2 -1")), (row("2 -1"), row("2 1"))))
        self.assertEqual(ways_in(told, couples("0,0 0,0 4,2")), (
            (row("0 1"), row("-1 0")), (row("0 -1"), row("1 0"))))

    def test_ways(self):
        kinds = {}
        for told, posts in cases():
            for some in (posts, posts[:1], posts[:2], posts[:4], posts[2:5], ()):
                found = ways_in(told, [list(post) for post in some])
                is_new_tuple(self, found)
                self.assertEqual(found, ways_in(told, some))
                self.are_right(told, some, found)
                kinds[len(found)] = kinds.get(len(found), 0) + 1
        self.assertGreaterEqual(set(kinds), {0, 1, 2, 3}, kinds)

    def are_right(self, told, some, found):
        if not some:
            self.assertEqual(found, ("all",))
            return
        rights = [angle_key(arc[0]) for arc in found]
        self.assertEqual(rights, sorted(set(rights)))
        for arc in found:
            self.assertTrue(is_plain(arc[0]) and is_plain(arc[1]))
            for end, by in ((arc[0], -1), (arc[1], 1)):
                self.assertTrue(can_come(told, some, end))
                self.assertFalse(can_come(told, some, turned_left(end, by)))
        bounds = [end for post in some for end in barred_arc(told, post)]
        near = [turned_left(end, by) for end in bounds for by in (1, -1)]
        for direction in tuple(bounds) + tuple(near) + ALL_ROUND:
            inside = any(is_in_arc(arc, direction) for arc in found)
            self.assertEqual(can_come(told, some, direction), inside)
            over = any(while_by_hand(told, post, direction) is not None for post in some)
            self.assertIs(can_come(told, some, direction), not over)

    def test_one_direction(self):
        told = work(SQUARE)
        for text, expected in (("1/2,0 1,1/2 1/2,1", "1 0"), ("1/2,0 0,1/2 1,1/2", "0 -1")):
            self.assertEqual(ways_in(told, couples(text)), ((row(expected), row(expected)),))

    def test_three_arcs(self):
        told = work(TRIANGLE)
        found = ways_in(told, told.corners)
        self.assertEqual(found, ((row("0 1"), row("-4 3")), (row("-1 0"), row("0 -1")), (row("4 -3"), row("1 0"))))

    def test_twelve(self):
        told = work(BOX)
        some = RIM[:1] * 6 + RIM[2:3] * 6
        self.assertEqual(ways_in(told, some), ((row("0 1"), row("0 1")), (row("-1 0"), row("1 0"))))

    def test_great_numbers(self):
        told = work(BOX)
        self.assertEqual(ways_in(told, [row(-GREAT, 0)]), ((row(GREAT, 2), row("1 0")),))
        both = ways_in(told, [row(-GREAT, 1), row(GREAT, 1)])
        self.assertEqual(both, ((row(GREAT, 1), row(4 - GREAT, 1)), (row(4 - GREAT, -1), row(GREAT, -1))))

    def test_refuses(self):
        refuses_posts(self, lambda posts: ways_in(work(BOX), posts))


def block_by_hand(told, posts, slides):
    """The first block of a path, by the words of the document, in Fractions."""
    x, y = Fraction(0), Fraction(0)
    for number, slide in enumerate(slides):
        a, b = values(slide)
        found = []
        for at, post in enumerate(posts):
            here = row(value(post[0]) - x, value(post[1]) - y)
            known = None if (a, b) == (0, 0) else while_by_hand(told, here, row(-a, -b))
            if known is not None and known[0] < 1:
                found.append((known[0], at))
        if found:
            return (number, ratio(min(found)[0]), min(found)[1])
        x, y = x + a, y + b
    return None


class PathBlock(unittest.TestCase):

    def test_by_hand(self):
        told = work(BOX)
        posts = couples("2,0 6,1")
        self.assertIsNone(path_block(told, posts, ()))
        self.assertIsNone(path_block(told, (), couples("1,0 5,7")))
        self.assertIsNone(path_block(told, posts, couples("0,0 0,0 0,0 0,0 0,0 0,0 0,0 0,0")))
        self.assertEqual(path_block(told, posts, couples("0,-1")), (0, ratio(0), 0))
        self.assertIsNone(path_block(told, posts, couples("0,5 9,0 0,-1")))
        self.assertEqual(path_block(told, posts, couples("4,0")), (0, ratio("1/2"), 1))
        self.assertEqual(path_block(told, posts, couples("2,0 0,0 1,0")), (2, ratio(0), 1))
        # At its end the slide just touches the post.
        self.assertIsNone(path_block(told, posts, couples("2,0")))
        self.assertEqual(path_block(told, posts, [list(one) for one in couples("0,1 4,0")]), None)
        self.assertEqual(path_block(told, posts, couples("0,1/2 4,0 0,1")), (1, ratio("1/2"), 1))
        self.assertEqual(path_block(told, couples("2,0 2,0 1,0"), couples("0,-1")), (0, ratio(0), 0))

    def test_paths(self):
        chance, kinds = random.Random(480), {}
        for told, posts in cases():
            for many in (0, 1, 2, 3, 8, 8, 8):
                some = posts[chance.randrange(3):]
                slides = tuple(row(*[Fraction(chance.randrange(-4, 5), chance.choice((1, 2, 7))) for _ in range(2)])
                               for _ in range(many))
                found = path_block(told, some, slides)
                is_new_tuple(self, found)
                self.assertEqual(found, block_by_hand(told, some, slides))
                if found is not None:
                    self.is_first(told, some, slides, found)
                kind = None if found is None else (min(found[0], 2), found[1] == (0, 1))
                kinds[kind] = kinds.get(kind, 0) + 1
        self.assertGreaterEqual(len(kinds), 5, kinds)

    def is_first(self, told, posts, slides, found):
        number, share, index = found
        shift = [sum((value(slide[k]) for slide in slides[:number]), Fraction(0)) for k in range(2)]
        for by, within in ((-TINY, False), (Fraction(0), False), (TINY, True)):
            part = value(share) + by
            moved = told.shifted(row(*[a + part * value(b) for a, b in zip(shift, slides[number])]))
            if part >= 0:
                self.assertEqual(moved.is_within(posts[index]), within)
            if not within and part >= 0:
                self.assertFalse(any(moved.is_within(post) for post in posts))
        self.assertTrue(0 <= value(share) < 1)

    def test_great_numbers(self):
        told = work(BOX)
        found = path_block(told, [row(GREAT, 1)], [row(GREAT - 4, 0), row(0, 0), row(1, 0)])
        self.assertEqual(found, (2, ratio(0), 0))
        self.assertEqual(path_block(told, [row(GREAT, 1)], [row(GREAT, 0)]), (0, ratio(Fraction(GREAT - 4, GREAT)), 0))

    def test_refuses(self):
        told = work(BOX)
        refuses_posts(self, lambda posts: path_block(told, posts, None))
        wrong = NO_SEQUENCES + ([row("1 0")] * 9, [None], (row("1 0"), row("1 0 0")), (row("1 0"), (1, 0)), row("1 0"))
        for thing in wrong + tuple([one] for one in NO_COUPLES):
            for posts in ((), RIM):
                refused(self, BadSlides, lambda: path_block(told, posts, thing))


if __name__ == "__main__":
    unittest.main()

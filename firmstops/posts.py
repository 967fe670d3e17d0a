"""Posts: places outside the work that a work on its way may come over."""

from firmstops.errors import BadPosts, BadSlides
from firmstops.freely import opposite
from firmstops.linear import plain_of
from firmstops.motions import check_direction
from firmstops.places import check_place, cross_of, dot_of, is_couple, place_minus, place_plus
from firmstops.ratios import ONE, ZERO, compare, greatest_of, is_sequence, least_of, negative, over, sign_of

EAST = ((1, 1), (0, 1))


def check_posts(work, posts):
    """Return 0 to 12 posts as a tuple of tuples."""
    if not is_sequence(posts) or len(posts) > 12:
        raise BadPosts(0, "many")
    for index, post in enumerate(posts):
        if not is_couple(post):
            raise BadPosts(index, "place")
        if work.is_within(post):
            raise BadPosts(index, "within")
    return tuple([check_place(post) for post in posts])


def check_post(work, post):
    """Return one post as a tuple."""
    return check_posts(work, (post,))[0]


def crossing(work, place, way):
    """Return (first, last): just between, place + t * way is strictly within the work, or None.

    The place is not strictly within, so t = 0 is never between, and what is before it is left out.
    """
    lows, highs = [], []
    for side, normal in enumerate(work.normals):
        height, rise = work.value_at(side, place), dot_of(normal, way)
        if sign_of(rise) > 0:
            lows.append(negative(over(height, rise)))
        elif sign_of(rise) < 0:
            highs.append(negative(over(height, rise)))
        elif sign_of(height) <= 0:
            return None
    first, last = greatest_of(lows), least_of(highs)
    return (first, last) if compare(first, last) < 0 and sign_of(last) > 0 else None


def within_while(work, post, direction):
    """Return (first, last): the fars just between which the work has a post strictly within, or None."""
    kept = check_direction(direction)
    return crossing(work, check_post(work, post), kept)


def first_met(work, posts, direction):
    """Return (index, far) of the post that the coming work meets first, or None."""
    kept = check_direction(direction)
    found = None
    for index, post in enumerate(check_posts(work, posts)):
        told = crossing(work, post, kept)
        if told is not None and (found is None or compare(told[1], found[1]) > 0):
            found = (index, told[1])
    return found


def arc_over(work, post):
    """Return (right, left): the plain directions just between which the work comes over a right post."""
    ways = [place_minus(corner, post) for corner in work.corners if corner != post]
    right = [way for way in ways if all([sign_of(cross_of(way, other)) >= 0 for other in ways])]
    left = [way for way in ways if all([sign_of(cross_of(way, other)) <= 0 for other in ways])]
    return (plain_of(right[0]), plain_of(left[0]))


def barred_arc(work, post):
    """Return (right, left): the plain directions just between which the work comes over a post."""
    return arc_over(work, check_post(work, post))


def is_in_upper_half(base, direction):
    """Return whether a direction is met from a base on, going left, by less than a half turn."""
    bend = sign_of(cross_of(base, direction))
    return bend > 0 or (bend == 0 and sign_of(dot_of(base, direction)) > 0)


def comes_before(base, one, other):
    """Return whether, going left from a base, one direction is met before another one."""
    upper = is_in_upper_half(base, one)
    if upper != is_in_upper_half(base, other):
        return upper
    return sign_of(cross_of(one, other)) > 0


def first_from(base, directions):
    """Return the direction that is met first from a base on, going left; it may be the base itself."""
    first = directions[0]
    for direction in directions:
        if comes_before(base, direction, first):
            first = direction
    return first


def is_over(arc, direction):
    """Return whether a direction is strictly between the two of an arc of at most a half turn."""
    return sign_of(cross_of(arc[0], direction)) > 0 and sign_of(cross_of(direction, arc[1])) > 0


def ways_in(work, posts):
    """Return the arcs of all directions along which the work never has a post strictly within."""
    kept = check_posts(work, posts)
    if len(kept) == 0:
        return ("all",)
    barred = [arc_over(work, post) for post in kept]
    # Each arc begins where a barred one ends, and goes on until the next barred one begins.
    begins = list({left: True for _, left in barred if not any([is_over(arc, left) for arc in barred])})
    arcs = []
    while len(begins) > 0:
        begin = first_from(EAST, begins)
        arcs.append((begin, first_from(begin, [right for right, _ in barred])))
        begins = [other for other in begins if other != begin]
    return tuple(arcs)


def can_come(work, posts, direction):
    """Return whether the work can be slid in along a direction with no post ever strictly within."""
    return first_met(work, posts, direction) is None


def check_slides(slides):
    """Raise BadSlides for anything but at most 8 couples."""
    if not is_sequence(slides) or len(slides) > 8 or not all([is_couple(slide) for slide in slides]):
        raise BadSlides()


def slide_block(work, posts, shift, slide):
    """Return (share, index) of the post that a slide of the work, shifted before, first comes over, or None."""
    found = None
    for index, post in enumerate(posts):
        told = None if tuple(slide) == (ZERO, ZERO) else crossing(work, place_minus(post, shift), opposite(slide))
        if told is not None and compare(told[0], ONE) < 0 and (found is None or compare(told[0], found[0]) < 0):
            found = (told[0], index)
    return found


def path_block(work, posts, slides):
    """Return (slide, share, index): where a path first comes over a post, and over which one, or None."""
    kept = check_posts(work, posts)
    check_slides(slides)
    shift = (ZERO, ZERO)
    for number, slide in enumerate(slides):
        found = slide_block(work, kept, shift, slide)
        if found is not None:
            return (number,) + found
        shift = place_plus(shift, slide)
    return None

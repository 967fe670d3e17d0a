"""Real turns and slides: how far they go, and the works that they place."""

from firmstops.centres import check_swing
from firmstops.errors import BadPlace, BadSteps
from firmstops.motions import check_direction, check_way
from firmstops.places import check_place, dot_of, place_minus, place_plus, place_scaled, quarter_left
from firmstops.ratios import ONE, ZERO, is_sequence, is_whole, least_of, minus, negative, over, plus, sign_of, times
from firmstops.stops import check_stops
from firmstops.works import Work


def turn_heads(work, stops, centre, way):
    """Return a couple (head, rise) for each stop: it is past its own side where head + swing * rise is above 0."""
    kept = check_stops(work, stops)
    to_left = check_way(way) == "left"
    there = check_place(centre)
    heads = []
    for side, spot in kept:
        ahead = place_minus(work.place_at(side, spot), there)
        lead = dot_of(work.normals[side], quarter_left(ahead))
        rise = negative(dot_of(work.normals[side], ahead))
        heads.append((negative(lead) if to_left else lead, rise))
    return heads


def first_met(heads):
    """Return (swing, indices): the greatest turn, and the stops that end it; (None, ()) if none does."""
    barred = tuple([index for index, (head, _) in enumerate(heads) if sign_of(head) > 0])
    if len(barred) > 0:
        return (ZERO, barred)
    limits = [(index, over(negative(head), rise)) for index, (head, rise) in enumerate(heads) if sign_of(rise) > 0]
    if len(limits) == 0:
        return (None, ())
    least = least_of([swing for _, swing in limits])
    return (least, tuple([index for index, swing in limits if swing == least]))


def greatest_turn(work, stops, centre, way):
    """Return the greatest swing up to which no stop comes past its own side, or None."""
    return first_met(turn_heads(work, stops, centre, way))[0]


def met_stops(work, stops, centre, way):
    """Return the ascending indices of the stops that end the greatest turn."""
    return first_met(turn_heads(work, stops, centre, way))[1]


def turn_of(way, swing):
    """Return the cosine of the angle of a turn, and its sine, below 0 for "right"."""
    square = times(swing, swing)
    bottom = plus(ONE, square)
    sine = over(times((2, 1), swing), bottom)
    return (over(minus(ONE, square), bottom), sine if way == "left" else negative(sine))


def place_after(place, centre, turn):
    """Return a place after a turn about a centre, told by its cosine and sine."""
    ahead = place_minus(place, centre)
    turned = place_plus(place_scaled(ahead, turn[0]), place_scaled(quarter_left(ahead), turn[1]))
    return place_plus(centre, turned)


def work_after(work, centre, way, swing):
    """Return the work after a turn about a centre; the arguments are right ones."""
    turn = turn_of(way, swing)
    return Work([place_after(corner, centre, turn) for corner in work.corners])


def turned_place(place, centre, way, swing):
    """Return a place after a turn about a centre."""
    check_way(way)
    here, there = check_place(place), check_place(centre)
    return place_after(here, there, turn_of(way, check_swing(swing)))


def turned_work(work, centre, way, swing):
    """Return the work after a turn about a centre, its corners in the same order."""
    check_way(way)
    there = check_place(centre)
    return work_after(work, there, way, check_swing(swing))


def placed_work(work, way, swing, by):
    """Return the work after a turn about (0, 0) and a shift."""
    check_way(way)
    step = check_place(by)
    return work_after(work, (ZERO, ZERO), way, check_swing(swing)).shifted(step)


def past_own(work, stops, placed):
    """Return the ascending indices of the stops that are past their own side of a placed work."""
    kept = check_stops(work, stops)
    return tuple([
        index for index, (side, spot) in enumerate(kept)
        if sign_of(placed.value_at(side, work.place_at(side, spot))) > 0
    ])


def is_clear(placed, places):
    """Return whether none of some places is strictly within a work."""
    if not is_sequence(places):
        raise BadPlace()
    kept = [check_place(place) for place in places]
    return not any([placed.is_within(place) for place in kept])


def check_steps(many):
    """Raise BadSteps for anything but a whole number from 1 to 100."""
    if not is_whole(many, 1, 100):
        raise BadSteps()


def turn_steps(work, centre, way, swing, many):
    """Yield many + 1 works: the work turned in equal steps of the swing, from 0 to all of it."""
    check_way(way)
    there = check_place(centre)
    check_swing(swing)
    check_steps(many)
    for step in range(many + 1):
        yield work_after(work, there, way, times(swing, over((step, 1), (many, 1))))


def slide_steps(work, direction, many):
    """Yield many + 1 works: the work shifted by 0 to many times a direction."""
    kept = check_direction(direction)
    check_steps(many)
    for step in range(many + 1):
        yield work.shifted(place_scaled(kept, (step, 1)))

"""Which asked values are free of one another, whatever the degree of an EQUATION between them."""

from loopsbeside.fewest import few
from loopsbeside.formulas import power_worth
from loopsbeside.ratios import ZERO, over, plus, power_of, reduced, times, whole

POINTS = 4
# Numbers far apart from all that is passed in, each from the one before it.
FIRST_NUMBER = 1234567890123456789
FACTOR = 6364136223846793005
MODULUS = 2305843009213693951


def free_asked(quest):
    """The set of the places asked that no EQUATION with those before them names. Raises TooMuch().

    A value has slopes in n, 2^n, 3^n and the new accumulators, which are free of one
    another. Values are free of one another if their slopes are, as vectors, and
    they are so already if they are at one point. The points are so far out that
    slopes which are not free at any of them are taken as not free at all.
    """
    program, _, asked = few(quest)
    points = _points(len(program))
    slopes = [[_slope(formula, point) for formula in asked] for point in points]
    found = []
    for place in range(len(asked)):
        more = found + [place]
        if any([len(reduced([own[at] for at in more])) == len(more) for own in slopes]):
            found.append(place)
    return tuple(found)


def _points(many):
    """The list of some points: tuples of numbers for n, 2^n, 3^n and as many accumulators."""
    points = []
    number = FIRST_NUMBER
    for _ in range(POINTS):
        point = []
        for _ in range(many + 3):
            number = number * FACTOR % MODULUS
            point.append(whole(number))
        points.append(point)
    return points


def _slope(formula, point):
    """The slopes of the FORMULA at the point; all but the first one times what they are slopes in."""
    n, twos, threes, *worths = point
    slope = [ZERO] * len(point)
    for powers, row in formula:
        product = power_worth(powers, worths)
        for base, place, power, worth in row:
            here = plus(n, place)
            two = _exponent(base, 2)
            three = _exponent(base, 3)
            own = times(power_of(here, power), times(power_of(twos, two), power_of(threes, three)))
            value = times(times(worth, product), own)
            factors = [over(whole(power), here)] + [whole(number) for number in (two, three, *powers)]
            slope = [plus(x, times(value, factor)) for x, factor in zip(slope, factors)]
    return tuple(slope)


def _exponent(base, factor):
    """How often the factor is in the top of the base, less how often it is in the bottom."""
    top, bottom = base
    many = 0
    while top % factor == 0:
        top = top // factor
        many += 1
    while bottom % factor == 0:
        bottom = bottom // factor
        many -= 1
    return many

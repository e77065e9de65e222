"""Points, keys and plain answers that several tests use."""

import random
from fractions import Fraction

BIG = 10 ** 18


def point_lists():
    """Lists of none to several points, flat, straight, bent and scattered, with narrow and wide gaps."""
    draw = random.Random(20)
    lists = [[], [(0, 0)], [(-5, 9)], [(0, 0), (1, 7)], [(-BIG, BIG), (BIG, -BIG)]]
    for size in range(3, 13):
        for gap in (1, 3, 10 ** 9):
            for spread in (1, 4, 30, 10 ** 6):
                lists.append(scattered(draw, size, gap, spread))
        lists.append([(k, 3 * k - 8) for k in range(size)])
        lists.append([(k - 4, (k - 4) ** 2) for k in range(size)])
        lists.append([(k - 4, -(k - 4) ** 3) for k in range(size)])
        lists.append([(k * 10 ** 17 - BIG, (-1) ** k * BIG) for k in range(size)])
    return lists


def scattered(draw, size, gap, spread):
    """So many points with gaps up to gap and heights up to spread from 0."""
    place = draw.randint(-50, 50)
    points = []
    for _ in range(size):
        points.append((place, draw.randint(-spread, spread)))
        place += draw.randint(1, gap)
    return points


def ascending_lists():
    """Lists of two or more points whose heights ascend strictly."""
    draw = random.Random(21)
    lists = [[(-BIG, -BIG), (BIG, BIG)], [(0, 0), (BIG, 1)], [(0, -BIG), (1, BIG)]]
    for size in range(2, 12):
        for gap in (1, 5, 10 ** 9):
            height = draw.randint(-40, 40)
            points = []
            for place, _ in scattered(draw, size, gap, 1):
                points.append((place, height))
                height += draw.choice([1, 1, 2, 50, 10 ** 6])
            lists.append(points)
    return lists


def value_lists():
    """Lists of none to several values: level, straight, bent, below 0, scattered, large."""
    draw = random.Random(22)
    lists = [[], [0], [-9], [BIG], [BIG, -BIG], [4, 4], [-3] * 9, [0, 0, 0, 1]]
    for size in range(3, 13):
        for spread in (1, 4, 30, 10 ** 6, BIG):
            lists.append([draw.randint(-spread, spread) for _ in range(size)])
        lists.append([7 - 3 * k for k in range(size)])
        lists.append([(k - 4) ** 2 for k in range(size)])
        lists.append([(-1) ** k * BIG for k in range(size)])
        lists.append([k // 3 * 5 for k in range(size)])
    return lists


def span_lists():
    """Lists of none to several spans, narrow and wide, points among them, with narrow and wide gaps."""
    draw = random.Random(23)
    lists = [[], [(0, 0, 0)], [(-5, -9, 9)], [(0, 0, 1), (1, 7, 7)],
             [(-BIG, -BIG, BIG), (0, BIG, BIG), (BIG, -BIG, 0)]]
    for size in range(3, 12):
        for gap in (1, 3, 10 ** 9):
            for spread in (1, 4, 30, 10 ** 6):
                for wide in (0, 2, spread):
                    lists.append([(place, low, low + draw.randint(0, wide))
                                  for place, low in scattered(draw, size, gap, spread)])
        lists.append([(k, k * k - 2 * k, k * k + 3) for k in range(size)])
        lists.append([(k * 10 ** 17 - BIG, (-1) ** k * BIG, BIG) for k in range(size)])
    return lists


def errors_for(points):
    """The error 0, small and great ones, and the least one for the points and its neighbours."""
    found = {0, 1, 2, 7, 10 ** 6, BIG}
    least = least_fitting(points)
    found |= {max(0, least - 1), least, least + 1}
    return sorted(found)


def slope_bounds(points, error):
    """The greatest lower and the least upper bound of the slopes, by all pairs (point 2.3)."""
    lower, upper = [], []
    for k, (u, v) in enumerate(points):
        for x, y in points[:k]:
            lower.append(Fraction(v - y - 2 * error, u - x))
            upper.append(Fraction(v - y + 2 * error, u - x))
    return max(lower), min(upper)


def pairs_fit(points, error):
    """Whether the points fit, by the bounds of their pairs."""
    if len(points) < 3:
        return True
    lower, upper = slope_bounds(points, error)
    return lower <= upper


def least_fitting(points):
    """The least error for which the points fit, by all triples."""
    least = 0
    for k, (s, t) in enumerate(points):
        for j, (u, v) in enumerate(points[:k]):
            for x, y in points[:j]:
                off = abs(Fraction(t - y, s - x) * (u - x) + y - v) / 2
                least = max(least, -(-off.numerator // off.denominator))
    return least


def line_is_within(line, points, error):
    """Whether the line runs within the error of all points, by fractions."""
    p, q, d = line
    return d >= 1 and all(abs(Fraction(p * x + q, d) - y) <= error for x, y in points)


def starts_in_turn(rows, right):
    """The starts of the longest pieces in turn for which right answers True."""
    starts = []
    start = 0
    while start < len(rows):
        starts.append(start)
        end = start + 1
        while end < len(rows) and right(rows[start:end + 1]):
            end += 1
        start = end
    return starts


def greedy_starts(points, error):
    """The starts of the longest pieces in turn, by the bounds of the pairs."""
    return starts_in_turn(points, lambda piece: pairs_fit(piece, error))


def fewest_pieces(rows, right):
    """The least number of pieces for which right answers True, by each set of starts."""
    best = len(rows)
    for chosen in range(2 ** max(0, len(rows) - 1)):
        starts = [0] + [k + 1 for k in range(len(rows) - 1) if chosen >> k & 1]
        ends = starts[1:] + [len(rows)]
        if len(starts) < best and all(right(rows[a:b]) for a, b in zip(starts, ends)):
            best = len(starts)
    return best


def with_item(rows, at, row):
    """The rows with another one at the index."""
    return rows[:at] + [row] + rows[at + 1:]

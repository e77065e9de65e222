"""Hull chains: the upper or the lower side of the convex hull of points.

A chain is a list of vertices (place, height, index) with ascending places.
The side of a chain is 1 for the upper hull, whose vertices have descending
slopes between them, and -1 for the lower hull, where the slopes ascend.
"""


def kept(chain, vertex, side):
    """How many vertices of the chain stay on its hull when the vertex is put behind them."""
    place, height, _ = vertex
    count = len(chain)
    while count > 1:
        back, low, _ = chain[count - 2]
        near, high, _ = chain[count - 1]
        if side * ((high - low) * (place - back) - (height - low) * (near - back)) > 0:
            break
        count -= 1
    return count


def farthest(chain, rise, run):
    """The vertex of a lower chain that is the farthest below lines of slope rise / run.

    For an upper chain pass -rise and -run: the vertex is the farthest above them.
    """
    first, last = 0, len(chain) - 1
    while first < last:
        middle = (first + last) // 2
        place, height, _ = chain[middle]
        farther, other, _ = chain[middle + 1]
        if rise * (farther - place) > run * (other - height):
            first = middle + 1
        else:
            last = middle
    return chain[first]


def steepest_from(chain, point):
    """The vertex of a lower chain from which the slope to a point to the right of it is greatest."""
    place, height = point
    first, last = 0, len(chain) - 1
    while first < last:
        middle = (first + last) // 2
        back, low, _ = chain[middle]
        near, high, _ = chain[middle + 1]
        # The edges of the chain, made longer, pass below the point up to the
        # touching vertex and above it from there on.
        if (height - low) * (near - back) > (high - low) * (place - back):
            first = middle + 1
        else:
            last = middle
    return chain[first]

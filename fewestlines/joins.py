"""Questions to two indexes, and the key of an index that is nearest to an integer."""


def common(one, other):
    """The keys that are in both indexes, ascending."""
    return [key for key in one.stored if other.has(key)]


def without(one, other):
    """The keys that are in the first index and not in the other one, ascending."""
    return [key for key in one.stored if not other.has(key)]


def together(one, other):
    """The keys that are in at least one of the indexes, ascending."""
    return sorted(one.stored + without(other, one))


def nearest(index, x):
    """The key with the least distance to x, the smaller one of two, or None if there is no key."""
    below = index.at_most(x)
    above = index.at_least(x)
    if below is None:
        return above
    if above is None or x - below <= above - x:
        return below
    return above

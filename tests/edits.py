"""Edits of stores, for tests that follow them beside a plain dictionary."""

import random

from fewestlines.store import Store
from samples import BIG


def edits_of(seed, many, keys, removals=3):
    """So many edits (key, value or None), with keys from -keys to keys; removals of ten are removals."""
    draw = random.Random(seed)
    return [(draw.randint(-keys, keys), None if draw.randrange(10) < removals else draw.randint(-9, 9))
            for _ in range(many)]


def edits_of_large_numbers(seed, many):
    """So many edits with keys and values up to the bounds, some of them again and again."""
    draw = random.Random(seed)
    keys = [-BIG, BIG, 0] + [draw.randint(-BIG, BIG) for _ in range(many // 3)]
    return [(draw.choice(keys), draw.choice([None, -BIG, BIG, draw.randint(-BIG, BIG)])) for _ in range(many)]


def edit(store, key, value):
    """Make an edit in a store, or in anything that has its methods."""
    if value is None:
        store.remove(key)
    else:
        store.put(key, value)


def store_after(capacity, error, edits):
    """A store after the edits."""
    store = Store(capacity, error)
    for key, value in edits:
        edit(store, key, value)
    return store


def pairs_after(edits):
    """The contents of a plain dictionary after the edits."""
    plain = {}
    for key, value in edits:
        if value is None:
            plain.pop(key, None)
        else:
            plain[key] = value
    return sorted(plain.items())


def state(store):
    """All that can be asked of a store."""
    return (store.capacity, store.error, store.edits, store.moves, store.contents(), store.run_sizes(),
            store.buffered())

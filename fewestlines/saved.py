"""Stores as texts."""

from fewestlines.errors import InvalidPaper
from fewestlines.papers import Paper, entry_line
from fewestlines.store import Store

GREATEST_LEVEL = 60

# For each number of a line: whether it may have a minus.
STORE_SIGNS = (False, False, False, False)
BUFFER_SIGNS = (False,)
RUN_SIGNS = (False, False)


def write_store(store):
    """The text of a store (point 17.1)."""
    buffer = store.buffer_entries()
    lines = [f"store {store.capacity} {store.error} {store.edits} {store.moves}", f"buffer {len(buffer)}"]
    lines.extend([entry_line(entry) for entry in buffer])
    for level, entries in enumerate(store.level_entries()):
        if entries:
            lines.append(f"run {level} {len(entries)}")
            lines.extend([entry_line(entry) for entry in entries])
    return "\n".join(lines)


def read_store(text):
    """A store like the one that the text writes; InvalidPaper if it has not the form."""
    paper = Paper(text)
    capacity, error, edits, moves = paper.numbers("store", STORE_SIGNS)
    if capacity < 1:
        raise InvalidPaper(paper.number)
    buffered = paper.numbers("buffer", BUFFER_SIGNS)[0]
    if buffered >= capacity:
        raise InvalidPaper(paper.number)
    buffer = paper.read_entries(buffered)
    levels = []
    while not paper.ended():
        level, size = paper.numbers("run", RUN_SIGNS)
        if not len(levels) <= level <= GREATEST_LEVEL or not 1 <= size <= capacity << level:
            raise InvalidPaper(paper.number)
        # Between two runs there may be levels without one.
        levels.extend([[] for _ in range(len(levels), level)])
        levels.append(paper.read_entries(size))
    store = Store(capacity, error)
    store.restore(edits, moves, buffer, levels)
    return store

"""Scripts: commands for a store, and its answers, as texts."""

from fewestlines.errors import InvalidPaper
from fewestlines.papers import Paper
from fewestlines.store import Store

# For each number of a line: whether it may have a minus.
STORE_SIGNS = (False, False)
COMMAND_SIGNS = {
    "put": (True, True),
    "remove": (True,),
    "get": (True,),
    "between": (True, True),
    "count": (),
    "sizes": (),
    "all": (),
}


def run_script(text):
    """The answers to the commands of a script; InvalidPaper if it has not the form (point 17.4)."""
    paper = Paper(text)
    capacity, error = paper.numbers("store", STORE_SIGNS)
    if capacity < 1:
        raise InvalidPaper(paper.number)
    commands = []
    while not paper.ended():
        word = paper.first_word()
        if word not in COMMAND_SIGNS:
            raise InvalidPaper(paper.number + 1)
        commands.append((word, paper.numbers(word, COMMAND_SIGNS[word])))
    return answers_to(commands, capacity, error)


def answers_to(commands, capacity, error):
    """The answers of a new store to the commands, each a word and its numbers."""
    store = Store(capacity, error)
    answers = []
    for word, numbers in commands:
        if word == "put":
            store.put(numbers[0], numbers[1])
        elif word == "remove":
            store.remove(numbers[0])
        else:
            answers.append(answer_to(store, word, numbers))
    return answers


def answer_to(store, word, numbers):
    """The answer of the store to a question."""
    if word == "get":
        value = store.get(numbers[0])
        return "none" if value is None else str(value)
    if word == "between":
        return pairs_text(store.between(numbers[0], numbers[1]))
    if word == "count":
        return str(len(store.contents()))
    if word == "sizes":
        return " ".join([str(size) for size in [store.buffered()] + store.run_sizes()])
    return pairs_text(store.contents())


def pairs_text(pairs):
    """The pairs as KEY:VALUE, separated by one space."""
    return " ".join([f"{key}:{value}" for key, value in pairs])

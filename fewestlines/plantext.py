"""Plans as texts, and the audit of such texts."""

from fewestlines.errors import InvalidPaper
from fewestlines.papers import Paper, number_of
from fewestlines.rooms import Plan, judge_plan, plan_room

# For each number of a line: whether it may have a minus.
PIECE_SIGNS = (False, False, True, True, False)


def write_plan(plan):
    """The text of a plan (point 17.5)."""
    lines = ["plan"]
    for start, digits, (p, q, d) in plan.pieces:
        lines.append(f"piece {start} {digits} {p} {q} {d}")
    for row in plan.reaches:
        lines.append(" ".join(["reaches"] + [reach_word(reach) for reach in row]))
    lines.append(" ".join(["prices"] + [str(price) for price in plan.prices]))
    return "\n".join(lines)


def reach_word(reach):
    """The word of a reach."""
    end, why = reach
    if why is None:
        return str(end)
    first, middle, last = why
    return f"{end},{first},{middle},{last}"


def read_plan(text):
    """The plan that a text writes; InvalidPaper if it has not the form."""
    paper = Paper(text)
    paper.numbers("plan", ())
    pieces = []
    while paper.first_word() == "piece":
        start, digits, p, q, d = paper.numbers("piece", PIECE_SIGNS)
        pieces.append((start, digits, (p, q, d)))
    reaches = []
    while not reaches or paper.first_word() == "reaches":
        row = [reach_in(word) for word in paper.words("reaches")]
        if None in row:
            raise InvalidPaper(paper.number)
        reaches.append(row)
    prices = [number_of(word, False) for word in paper.words("prices")]
    if not prices or None in prices:
        raise InvalidPaper(paper.number)
    paper.finish()
    return Plan(pieces, reaches, prices)


def reach_in(word):
    """The reach that the word writes, or None if it has not the form."""
    numbers = [number_of(digits, False) for digits in word.split(",")]
    if None in numbers or len(numbers) not in (1, 4):
        return None
    if len(numbers) == 1:
        return numbers[0], None
    return numbers[0], (numbers[1], numbers[2], numbers[3])


def audit_plan(values, header, text):
    """The room of the plan that the text writes, or None if it is not accepted."""
    try:
        plan = read_plan(text)
    except InvalidPaper:
        return None
    if judge_plan(values, header, plan):
        return plan_room(values, header, plan)
    return None

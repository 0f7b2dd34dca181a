"""Maps and runs as texts."""

from untriedways.errors import NoRun, NoText
from untriedways.maps import are_goals, great_map, is_pair
from untriedways.runs import has_run_form
from untriedways.values import is_index

FEWEST_PLACES = 2
MOST_PLACES = 400
# As many digits as the greatest arrow of a text has.
MOST_DIGITS = 9
ARROWS = 10 ** 9
DIGITS = "0123456789"
EMPTY = "none"


def map_text(chart):
    """The text of a map."""
    lines = ["places " + str(chart.many()), "goals " + lot_text(chart.goals())]
    lines.extend([f"arrow {tail} {head}" for tail, head in chart.arrows()])
    return "\n".join(lines)


def lot_text(lot):
    """The text of a lot."""
    return ",".join([str(item) for item in lot]) if len(lot) > 0 else "-"


def run_text(run):
    """The text of a run."""
    if not has_run_form(run) or not all([is_index(arrow, ARROWS) for pairs in run for arrow, _ in pairs]):
        raise NoRun()
    if len(run) == 0:
        return EMPTY
    return "\n".join([" ".join([_answer_text(arrow, sound) for arrow, sound in pairs]) for pairs in run])


def read_map(text):
    """The map whose text it is."""
    if not isinstance(text, str):
        raise NoText()
    lines = text.split("\n")
    if len(lines) < 2:
        raise NoText()
    places = _numbers_behind("places ", lines[0], " ")
    goals = _numbers_behind("goals ", lines[1], ",")
    arrows = tuple([_numbers_behind("arrow ", line, " ") for line in lines[2:]])
    if len(places) != 1 or not FEWEST_PLACES <= places[0] <= MOST_PLACES:
        raise NoText()
    many = places[0]
    if not all([is_pair(pair, many) for pair in arrows]) or not are_goals(goals, many, arrows):
        raise NoText()
    return great_map(many, arrows, goals)


def read_run(text):
    """The run whose text it is."""
    if not isinstance(text, str):
        raise NoText()
    if text == EMPTY:
        return []
    run = [_evening_in(line) for line in text.split("\n")]
    if not has_run_form(run):
        raise NoText()
    return run


def is_decimal(text):
    """Whether it is a number without signs and zeros ahead."""
    if text == "" or not all([sign in DIGITS for sign in text]):
        return False
    return text == "0" or text[0] != "0"


def number_of(text):
    """The number that is written so, None for one of very many digits."""
    return int(text) if len(text) <= MOST_DIGITS else None


def answer_in(word):
    """The tuple of the text of the arrow and the flag, None if the word is no answer."""
    if word[-1:] not in ("+", "-") or not is_decimal(word[:-1]):
        return None
    return (word[:-1], word[-1] == "+")


def _answer_text(arrow, sound):
    return str(arrow) + ("+" if sound else "-")


def _numbers_behind(word, line, sign):
    """The tuple of the numbers that stand behind the word, with this sign between two."""
    words = line[len(word):].split(sign)
    if not line.startswith(word) or not all([is_decimal(one) and len(one) <= MOST_DIGITS for one in words]):
        raise NoText()
    return tuple([number_of(one) for one in words])


def _evening_in(line):
    """The tuple of the pairs of an evening."""
    answers = [answer_in(word) for word in line.split(" ")]
    if None in answers:
        raise NoText()
    return tuple([(number_of(digits), sound) for digits, sound in answers])

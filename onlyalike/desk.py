"""A DESK: a RUNNER that is asked and told by lines of text."""

from onlyalike.counts import count_lists, list_at
from onlyalike.errors import AlikeError, BadNumber, BadQuestion, BadRow, BadThing, TooMany
from onlyalike.losses import loss_of
from onlyalike.runner import Runner
from onlyalike.texts import list_text, read_machine
from onlyalike.things import MOST_CHARACTERS

MOST_FIGURES = 3
MOST_LISTED_FIGURES = 40
MOST_FED_FIGURES = 9


def are_from(text, low, high, most):
    """Whether a text has from one to so many characters, all of them from low to high."""
    return 1 <= len(text) <= most and all([low <= character <= high for character in text])


def is_plain_number(text, most):
    """Whether a text is a number of at most so many figures, without a 0 ahead of others."""
    return are_from(text, "0", "9", most) and (text[0] != "0" or len(text) == 1)


def number_in(text, most):
    """The number that a text tells; BadNumber of what is none."""
    if not is_plain_number(text, most):
        raise BadNumber(text)
    return int(text)


def thing_in(text):
    """The THING that a text tells; BadThing of what is none."""
    if are_from(text, "a", "z", MOST_CHARACTERS):
        return text
    if text == "-0" or not is_plain_number(text[1:] if text[:1] == "-" else text, MOST_FED_FIGURES):
        raise BadThing(text)
    return int(text)


def all_of(parts):
    """Some parts with a space between two, "none" if there are none."""
    return " ".join([str(part) for part in parts]) if len(parts) > 0 else "none"


def answer_end(runner):
    """The VERDICT, and what is told behind it."""
    verdict, row = runner.ending()
    return " ".join([verdict, *[str(thing) for thing in row]])


def answer_boxes(runner):
    """What each box holds that is not empty."""
    return all_of([f"{box}:{thing}" for box, thing in runner.boxes_now])


def answer_needed(runner):
    """The THINGS that are NEEDED."""
    return all_of(runner.needed_now())


def answer_state(runner):
    """The NAME of the STATE."""
    return runner.state_now


def answer_fed(runner):
    """How many THINGS were fed."""
    return str(len(runner))


def answer_slim(runner):
    """Slim the RUNNER."""
    runner.slim()
    return "done"


def answer_undo(runner):
    """Take back what was done last."""
    return "done" if runner.undo() else "nothing"


def answer_redo(runner):
    """Do again what was taken back last."""
    return "done" if runner.redo() else "nothing"


def answer_loss(runner, in_sum):
    """Whether the MACHINE KEEPS ALL."""
    loss = loss_of(runner.program, in_sum)
    if loss is None:
        return "yes"
    return f"lost {len(loss[0]) + len(loss[1])}"


def answer_kept(runner):
    """Whether it does so by moments."""
    return answer_loss(runner, False)


def answer_feed(runner, words):
    """Feed a THING."""
    return all_of(runner.feed(thing_in(words[0])))


def answer_row(runner, words):
    """The row of the item with a number."""
    number = number_in(words[0], MOST_FIGURES)
    if number >= len(runner):
        raise BadRow(number)
    return all_of(runner.told[number])


def answer_sum(runner, words):
    """Whether the MACHINE KEEPS ALL IN SUM."""
    if words[0] != "sum":
        raise BadQuestion("no such line")
    return answer_loss(runner, True)


def answer_count(runner, words):
    """A COUNT."""
    verdict, many, things = words
    return str(count_lists(runner.program, verdict, number_in(many, MOST_FIGURES), number_in(things, MOST_FIGURES)))


def answer_list(runner, words):
    """The text of a PLAIN LIST that is LISTED."""
    verdict, many, things, at = words
    number = number_in(at, MOST_LISTED_FIGURES)
    items = list_at(
        runner.program, verdict, number_in(many, MOST_FIGURES), number_in(things, MOST_FIGURES), number)
    return list_text(runner.program, items) if len(items) > 0 else "empty"


# What answers a line of one word, and a line with so many words behind the first one.
ALONE = {
    "end": answer_end, "boxes": answer_boxes, "needed": answer_needed, "state": answer_state, "fed": answer_fed,
    "slim": answer_slim, "undo": answer_undo, "redo": answer_redo, "kept": answer_kept,
}
BEHIND = {"feed": 1, "row": 1, "kept": 1, "count": 3, "list": 4}
ASKED = {
    "feed": answer_feed, "row": answer_row, "kept": answer_sum, "count": answer_count, "list": answer_list,
}


def answer_to(runner, line):
    """The answer to a line; BadQuestion of one that is none."""
    if not isinstance(line, str):
        raise BadQuestion("no line")
    words = line.split(" ")
    head = words[0]
    if len(words) == 1 and head in ALONE:
        answer = ALONE[head]
        return answer(runner)
    if head not in ASKED or len(words) != BEHIND[head] + 1:
        raise BadQuestion("no such line")
    answer_words = ASKED[head]
    return answer_words(runner, words[1:])


class Desk:
    """A RUNNER of the MACHINE of a text, and answers to lines."""

    def __init__(self, text):
        self.own = Runner(read_machine(text))

    @property
    def runner(self):
        """The RUNNER itself."""
        return self.own

    def say(self, line):
        """The answer to anything; "no" to what is no line, or is refused."""
        try:
            return answer_to(self.own, line)
        except (AlikeError, TooMany):
            return "no"

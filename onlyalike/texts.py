"""Texts of MACHINES and of PLAIN LISTS."""

from onlyalike.errors import BadList, BadText
from onlyalike.machines import DEED_FORMS, END_QUESTIONS, END_TOLD, ITEM_QUESTIONS, ITEM_TOLD, need_machine
from onlyalike.things import MOST_LETTERS, is_plain_list, is_word

MOST_FIGURES = 3
MOST_DEEP_READ = 40

# The form of a line: the words that stand there as they are, how many others come behind them (None: any number), and
# whether these are words, or items of a list.
WORDS_LINE = (("words",), None, "word")
BOXES_LINE = (("boxes",), None, "word")
STATE_LINE = (("state",), 1, "word")
ELSE_LINE = (("else",), 0, "word")
GO_LINE = (("go",), 1, "word")
YES_LINE = (("yes",), 0, "word")
NO_LINE = (("no",), 0, "word")
ITEMS_LINE = ((), None, "item")


def tree_lines(tree):
    """The lines of a TREE."""
    if tree[0] == "ask":
        _, question, yes, no = tree
        return [" ".join(["ask", *question]), *tree_lines(yes), "else", *tree_lines(no)]
    if tree[0] == "go":
        _, deeds, row, name = tree
        return [*[" ".join(deed) for deed in deeds], *[" ".join(["tell", *part]) for part in row], "go " + name]
    _, verdict, row = tree
    return [*[" ".join(["tell", *part]) for part in row], verdict]


def machine_text(machine):
    """The text of a MACHINE."""
    need_machine(machine)
    words, boxes, states = machine
    lines = [" ".join(["words", *words]), " ".join(["boxes", *boxes])]
    for name, item, end in states:
        lines.extend(["state " + name, *tree_lines(item), *tree_lines(end)])
    return "\n".join(lines)


def list_text(machine, items):
    """The text of a PLAIN LIST of a MACHINE."""
    need_machine(machine)
    if not is_plain_list(machine[0], items):
        raise BadList(items)
    return " ".join([str(item) for item in items])


def count_ahead(text, low, high, most):
    """How many characters at the beginning of a text are from low to high, so many at most."""
    many = 0
    while many < min(len(text), most) and low <= text[many] <= high:
        many += 1
    return many


def good_letters(piece, head):
    """How many characters of a piece of a line are as in what has to stand there."""
    many = 0
    while many < min(len(piece), len(head)) and piece[many] == head[many]:
        many += 1
    return many


def good_beginning(piece, kind):
    """How many characters at the beginning of a piece of a line are those of a word, or of an item of a list."""
    if kind == "item" and "0" <= piece[:1] <= "9":
        return 1 if piece[0] == "0" else count_ahead(piece, "0", "9", MOST_FIGURES)
    return count_ahead(piece, "a", "z", MOST_LETTERS)


def line_fault(line, form):
    """The number of the first character with which no line of a form goes on, or None of a line of this form."""
    heads, many, kind = form
    pieces = line.split(" ")
    least = len(heads) + (many or 0)
    place = 0
    for at, piece in enumerate(pieces):
        is_head = at < len(heads)
        good = good_letters(piece, heads[at]) if is_head else good_beginning(piece, kind)
        if good < len(piece):
            return place + good
        place += good
        is_whole = piece == heads[at] if is_head else good > 0
        if at == len(pieces) - 1:
            return None if is_whole and at >= least - 1 else place
        if not is_whole or (many is not None and at >= least - 1):
            return place
        place += 1
    return None


def lines_with(heads, forms):
    """The forms of the lines that begin with some words and go on as forms of machines.py do."""
    return [((*heads, form[0]), len(form) - 1, "word") for form in forms]


class Reading:
    """A text that is read line by line."""

    def __init__(self, text):
        if not isinstance(text, str):
            raise BadText(-1, -1)
        self.lines = text.split("\n")
        self.at = 0

    def is_done(self):
        """Whether all lines were read."""
        return self.at == len(self.lines)

    def take(self, forms):
        """The words of the next line, which has one of the forms; BadText if it has none."""
        if self.is_done():
            raise BadText(self.at, 0)
        line = self.lines[self.at]
        faults = [line_fault(line, form) for form in forms]
        if None not in faults:
            raise BadText(self.at, max(faults))
        self.at += 1
        return line.split(" ")

    def take_leaf(self, line, of_item):
        """A LEAF of an ITEM, or of an END, whose first line was read."""
        ends = [GO_LINE] if of_item else [YES_LINE, NO_LINE]
        tells = [*lines_with(("tell",), ITEM_TOLD if of_item else END_TOLD), *ends]
        deeds = []
        row = []
        while of_item and line[0] not in ("tell", "go"):
            deeds.append(tuple(line))
            line = self.take([*lines_with((), DEED_FORMS), *tells])
        while line[0] == "tell":
            row.append(tuple(line[1:]))
            line = self.take(tells)
        return ("go", tuple(deeds), tuple(row), line[1]) if of_item else ("end", line[0], tuple(row))

    def take_tree(self, of_item, deep):
        """A TREE of an ITEM, or of an END, with deep - 1 questions above it."""
        forms = lines_with(("tell",), ITEM_TOLD if of_item else END_TOLD)
        forms.extend([GO_LINE, *lines_with((), DEED_FORMS)] if of_item else [YES_LINE, NO_LINE])
        if deep < MOST_DEEP_READ:
            forms.extend(lines_with(("ask",), ITEM_QUESTIONS if of_item else END_QUESTIONS))
        line = self.take(forms)
        if line[0] != "ask":
            return self.take_leaf(line, of_item)
        yes = self.take_tree(of_item, deep + 1)
        self.take([ELSE_LINE])
        return "ask", tuple(line[1:]), yes, self.take_tree(of_item, deep + 1)

    def take_state(self):
        """A STATE."""
        name = self.take([STATE_LINE])[1]
        item = self.take_tree(True, 1)
        return name, item, self.take_tree(False, 1)


def read_machine(text):
    """The MACHINE that a text tells."""
    reading = Reading(text)
    words = reading.take([WORDS_LINE])[1:]
    boxes = reading.take([BOXES_LINE])[1:]
    states = [reading.take_state()]
    while not reading.is_done():
        states.append(reading.take_state())
    return need_machine((tuple(words), tuple(boxes), tuple(states)))


def read_list(machine, text):
    """The PLAIN LIST of a MACHINE that a text tells."""
    need_machine(machine)
    reading = Reading(text)
    # The empty line is no item, but the empty list.
    pieces = [] if reading.lines[0] == "" else reading.take([ITEMS_LINE])
    if len(reading.lines) > 1:
        raise BadText(1, 0)
    items = tuple([piece if is_word(piece) else int(piece) for piece in pieces])
    if not is_plain_list(machine[0], items):
        raise BadList(items)
    return items

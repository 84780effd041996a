"""The errors of the package: what is refused, and why."""


class AlikeError(ValueError):
    """What is refused."""


class BadMachine(AlikeError):
    """No MACHINE; place tells where it is none."""

    def __init__(self, place):
        super().__init__("no MACHINE")
        self.place = place


class BadFlow(AlikeError):
    """No FLOW; place tells where it is none."""

    def __init__(self, place):
        super().__init__("no FLOW")
        self.place = place


class BadPaper(AlikeError):
    """A PAPER that does not hold; part tells which part of it."""

    def __init__(self, part):
        super().__init__("no PAPER that holds")
        self.part = part


class BadThing(AlikeError):
    """No THING."""

    def __init__(self, given):
        super().__init__("no THING")
        self.given = given


class BadList(AlikeError):
    """No such LIST."""

    def __init__(self, given):
        super().__init__("no such LIST")
        self.given = given


class BadWords(AlikeError):
    """No such WORDS."""

    def __init__(self, given):
        super().__init__("no such WORDS")
        self.given = given


class BadPlace(AlikeError):
    """No number of a PLACE."""

    def __init__(self, given):
        super().__init__("no number of a PLACE")
        self.given = given


class BadLink(AlikeError):
    """No LINK of the two PLACES."""

    def __init__(self, given):
        super().__init__("no LINK of the two PLACES")
        self.given = given


class BadCondition(AlikeError):
    """No CONDITION."""

    def __init__(self, given):
        super().__init__("no CONDITION")
        self.given = given


class BadFilter(AlikeError):
    """No FILTER."""

    def __init__(self, given):
        super().__init__("no FILTER")
        self.given = given


class BadVerdict(AlikeError):
    """No VERDICT."""

    def __init__(self, given):
        super().__init__("no VERDICT")
        self.given = given


class BadWord(AlikeError):
    """No word."""

    def __init__(self, given):
        super().__init__("no word")
        self.given = given


class BadClaim(AlikeError):
    """No CLAIM."""

    def __init__(self, given):
        super().__init__("no CLAIM")
        self.given = given


class Parts(AlikeError):
    """MACHINES that part; given is a PARTING of them."""

    def __init__(self, given):
        super().__init__("MACHINES that part")
        self.given = given


class BadNumber(AlikeError):
    """No such number."""

    def __init__(self, number):
        super().__init__("no such number")
        self.number = number


class BadPipe(AlikeError):
    """No PIPE; number is that of the first thing in it that is no FLOW, or None."""

    def __init__(self, number):
        super().__init__("no PIPE")
        self.number = number


class BadRow(AlikeError):
    """No number of a row."""

    def __init__(self, number):
        super().__init__("no number of a row")
        self.number = number


class BadJournal(AlikeError):
    """No JOURNAL; number is that of the first thing in it that is refused, or None."""

    def __init__(self, number):
        super().__init__("no JOURNAL")
        self.number = number


class BadText(AlikeError):
    """A text that cannot be read; line and place tell from where on."""

    def __init__(self, line, place):
        super().__init__("no such text")
        self.line = line
        self.place = place


class BadQuestion(AlikeError):
    """What cannot be asked of these; it is made with a text."""


class TooMany(OverflowError):
    """More than most."""

    def __init__(self, most):
        super().__init__("too many")
        self.most = most


class Missing(KeyError):
    """What is not there."""

    def __init__(self, given):
        super().__init__("not there")
        self.given = given

"""THINGS, WORDS and LISTS by their form, and PLAIN LISTS."""

from onlyalike.errors import BadList, BadWords

MOST_CHARACTERS = 20
MOST_LETTERS = 6
MOST_WORDS = 8
MOST_ITEMS = 1000


def is_integer(thing):
    """Whether anything is an integer; True and False are none."""
    return isinstance(thing, int) and not isinstance(thing, bool)


def is_number(thing, most):
    """Whether anything is an integer from 0 to most."""
    return is_integer(thing) and 0 <= thing <= most


def is_tuple_of(thing, many):
    """Whether anything is a tuple with so many things."""
    return isinstance(thing, tuple) and len(thing) == many


def is_one_of(thing, texts):
    """Whether anything is one of some strings."""
    # An object of another class may say of itself that it equals anything, so it is not asked.
    return isinstance(thing, str) and thing in texts


def is_thing(thing):
    """Whether anything is a THING."""
    if isinstance(thing, str):
        return 1 <= len(thing) <= MOST_CHARACTERS and "\n" not in thing
    return is_integer(thing)


def is_word(thing):
    """Whether anything is a word."""
    if not isinstance(thing, str) or not 1 <= len(thing) <= MOST_LETTERS:
        return False
    return all(["a" <= letter <= "z" for letter in thing])


def is_ascending(things):
    """Whether each of some things, of one kind, is greater than the one ahead."""
    return all([things[at - 1] < things[at] for at in range(1, len(things))])


def are_words(thing, most):
    """Whether anything is an ascending tuple of words, so many of them at most."""
    if not isinstance(thing, tuple) or len(thing) > most:
        return False
    return all([is_word(word) for word in thing]) and is_ascending(thing)


def is_list(thing, most):
    """Whether anything is a tuple of THINGS, so many of them at most."""
    if not isinstance(thing, tuple) or len(thing) > most:
        return False
    return all([is_thing(part) for part in thing])


def need_list(thing):
    """The LIST itself; BadList of what is none."""
    if not is_list(thing, MOST_ITEMS):
        raise BadList(thing)
    return thing


def need_words(thing):
    """The WORDS themselves; BadWords of what are none."""
    if not are_words(thing, MOST_WORDS):
        raise BadWords(thing)
    return thing


def numbered(words, things):
    """The PLAIN LIST of THINGS, however many they are."""
    numbers = {}
    out = []
    for thing in things:
        if thing in words:
            out.append(thing)
        else:
            out.append(numbers.setdefault(thing, len(numbers)))
    return tuple(out)


def count_numbers(items):
    """How many unlike numbers a PLAIN LIST has; these are the numbers below that."""
    return len(set([item for item in items if is_integer(item)]))


def plain_list(words, things):
    """The PLAIN LIST of a LIST for WORDS."""
    need_words(words)
    need_list(things)
    return numbered(words, things)


def is_plain_list(words, thing):
    """Whether anything is a PLAIN LIST of WORDS, with at most 1,000 items."""
    need_words(words)
    return is_list(thing, MOST_ITEMS) and numbered(words, thing) == thing

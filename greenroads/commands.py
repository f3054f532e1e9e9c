"""Commands of the console: their words are read into values."""
from greenroads.errors import InvalidCommand
from greenroads.texts import number_of

MOST_DIGITS = 100
# The values of each command but road: N a number, X a number with or without a sign, G greens.
FORMS = {
    "undo": "", "plan": "NGX", "shift": "NXX", "drop": "NX", "at": "X", "drive": "X", "touched": "", "changes": "",
    "runs": "", "platoons": "", "gaps": "", "windows": "", "within": "N", "worst": "", "laps": "XN", "free": "",
    "pace": ""}


def signed_of(word):
    """The number with or without a sign that a word writes, or None."""
    if not word.startswith("-"):
        return number_of(word, MOST_DIGITS)
    number = number_of(word[1:], MOST_DIGITS)
    return None if number is None or number == 0 else -number


def greens_of(word):
    """The greens that a word writes, or None; their bounds are not looked at."""
    found = []
    for text in word.split(","):
        offset, _, length = text.partition("+")
        green = (number_of(offset, MOST_DIGITS), number_of(length, MOST_DIGITS))
        if None in green:
            return None
        found.append(green)
    return tuple(found)


def value_of(kind, word):
    """The value of a kind of those in FORMS that a word writes, or None."""
    if kind == "N":
        return number_of(word, MOST_DIGITS)
    return signed_of(word) if kind == "X" else greens_of(word)


def road_words(command):
    """The tuple (cycle, text) of the command road; InvalidCommand if it is none."""
    _, space, rest = command.partition(" ")
    word, behind, text = rest.partition(" ")
    cycle = number_of(word, MOST_DIGITS)
    # An empty text is not written, nor the space ahead of it.
    if space == "" or cycle is None or (behind != "" and text == ""):
        raise InvalidCommand("the command is not valid")
    return cycle, text


def read_command(command):
    """The tuple (name, list of its values) of any value that is a command; InvalidCommand if it is none."""
    if not isinstance(command, str):
        raise InvalidCommand("a command is a string")
    words = command.split(" ")
    if words[0] == "road":
        return "road", list(road_words(command))
    if words[0] not in FORMS or len(words) != len(FORMS[words[0]]) + 1:
        raise InvalidCommand("the command is not valid")
    values = [value_of(kind, word) for kind, word in zip(FORMS[words[0]], words[1:])]
    if None in values:
        raise InvalidCommand("the command is not valid")
    return words[0], values

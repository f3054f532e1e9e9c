"""Roads by the words of the document: cars are driven word by word, with repeats written out."""
from tests.model import Table


def model_tree(text):
    """A valid text as nested lists; signals are numbered as they are read."""
    many = [0]
    return read_row(iter(text.split(" ") if text else []), many)[0]


def read_row(words, many):
    """The list of what stands ahead of the word that ends it, and this word."""
    row = []
    for word in words:
        if word == "(":
            inner, end = read_row(words, many)
            row.append(("times", int(end[1:]), inner))
        elif word in ("{", "<"):
            roads, end = [], "|"
            while end in ("|", "&"):
                inner, end = read_row(words, many)
                roads.append(inner)
            row.append((word, roads))
        elif word[0] in ")|&}>":
            return row, word
        elif word.startswith("s:"):
            greens = [tuple(int(part) for part in green.split("+")) for green in word[2:].split(",")]
            row.append(("signal", many[0], greens))
            many[0] += 1
        else:
            row.append(("travel", int(word)))
    return row, ""


def passing_of(cycle, greens, moment):
    """The least green moment from a moment on."""
    return min(moment if (moment - offset) % cycle < length else moment + (offset - moment) % cycle
               for offset, length in greens)


def model_drive(cycle, row, moment):
    """The tuple (what drive tells, arrival) of a car on what model_tree made."""
    seen = []
    for kind, *told in row:
        if kind == "travel":
            moment += told[0]
        elif kind == "signal":
            passing = passing_of(cycle, told[1], moment)
            seen.append((told[0], moment, passing))
            moment = passing
        elif kind == "times":
            for _ in range(told[0]):
                more, moment = model_drive(cycle, told[1], moment)
                seen += more
        else:
            drives = [model_drive(cycle, road, moment) for road in told[0]]
            arrivals = [arrival for _, arrival in drives]
            if kind == "{":
                more, moment = drives[arrivals.index(min(arrivals))]
                seen += more
            else:
                seen += [passing for more, _ in drives for passing in more]
                moment = max(arrivals)
    return seen, moment


def model_table(cycle, text):
    """The table of a road."""
    tree = model_tree(text)
    return Table([model_drive(cycle, tree, start)[1] for start in range(cycle)])


def model_passes(row):
    """The indices of the signals with repeats written out."""
    found = []
    for kind, *told in row:
        if kind == "signal":
            found.append(told[0])
        elif kind == "times":
            found += model_passes(told[1]) * told[0]
        elif kind in ("{", "<"):
            found += [index for road in told[0] for index in model_passes(road)]
    return found


def chance_signal(source, cycle, unit=1):
    greens = []
    for _ in range(source.choice([1, 1, 1, 2, 3, 6])):
        length = source.choice([1, source.randint(1, cycle), source.randint(1, cycle // 2 + 1)])
        greens.append(f"{source.randrange(cycle) * unit}+{length * unit}")
    return "s:" + ",".join(greens)


def chance_words(source, cycle, many, depth, unit=1):
    """About so many words of a road in brackets up to this depth; all numbers are multiples of the unit."""
    words = []
    while len(words) < many:
        kind = source.choice("NNSSS({<" if depth else "NSS")
        inner = source.randint(0, max(1, many // 2))
        if kind == "N":
            words.append(str(min(source.randint(0, 2 * cycle) * unit, 10 ** 30 // unit * unit)))
        elif kind == "S":
            words.append(chance_signal(source, cycle, unit))
        elif kind == "(":
            row = chance_words(source, cycle, inner, depth - 1, unit) or [str(3 * unit)]
            words += ["("] + row + [f"){source.randint(1, 3)}"]
        else:
            sign, end = ("|", "}") if kind == "{" else ("&", ">")
            words.append(kind)
            for road in range(source.choice([2, 2, 3])):
                words += ([sign] if road else []) + chance_words(source, cycle, inner, depth - 1, unit)
            words.append(end)
    return words


def chance_text(source, cycle, many, depth, unit=1):
    return " ".join(chance_words(source, cycle, many, depth, unit))


def always_green(text, index, cycle):
    """The text with the signal of this index always green."""
    words = text.split(" ")
    at = [place for place, word in enumerate(words) if word.startswith("s:")][index]
    return " ".join(words[:at] + [f"s:0+{cycle}"] + words[at + 1:])

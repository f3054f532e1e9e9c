"""Windows: signals of one green with a travel behind them, from which passages are chosen."""
from greenroads.checks import check_cycle, is_whole
from greenroads.errors import Backward, InvalidWindows, TooLarge
from greenroads.passages import Passage, check_passage
from greenroads.roads import Road
from greenroads.runs import moved, run_pairs
from greenroads.texts import MOST_ROADS, MOST_TRAVEL
from greenroads.together import SOONER, all_together


def is_window(cycle, value):
    """Whether any value is a window of the cycle."""
    if not isinstance(value, tuple) or len(value) != 3 or not all([is_whole(part) for part in value]):
        return False
    first, last, travel = value
    return 0 <= first < cycle and first <= last < first + cycle and travel >= 0


def from_windows(cycle, windows):
    """The passage that is the sooner one of some windows."""
    check_cycle(cycle)
    if not isinstance(windows, list) or len(windows) == 0 or not all([is_window(cycle, row) for row in windows]):
        raise InvalidWindows("windows are a list of at least one tuple (first, last, travel)")
    passages = [Passage(cycle, ((first, last, first + travel),)) for first, last, travel in windows]
    return all_together(SOONER, passages)


def fewest_windows(passage):
    """The ascending list of the windows, as few as possible, of which a passage is the sooner one."""
    check_passage(passage)
    if min([arrival - first for first, _, arrival in passage.runs]) < 0:
        raise Backward("some duration is below 0")
    return windows_of(passage.cycle, passage.runs)


def windows_of(cycle, runs):
    """The ascending list of the windows of a passage, told its runs."""
    # Of the starts behind one run up to the end of the next one, the first has the greatest duration.
    tops = [run[2] - before[1] - 1 for before, run in run_pairs(cycle, runs)]
    greatest = max(tops)
    # Where the greatest one is, all windows with lesser travels are parted: none of them goes on over the turn.
    at = tops.index(greatest)
    turned = list(runs[at:]) + [moved(run, cycle) for run in runs[:at]]
    found, begun = [], []
    for (first, last, arrival), top in zip(turned, tops[at:] + tops[:at]):
        while begun and begun[-1][2] < top:
            found.append(begun.pop())
        travel = arrival - first
        goes_on = len(begun) > 0 and begun[-1][2] == travel
        begun.append((begun.pop()[0] if goes_on else first, last, travel))
    return sorted([window_at_home(cycle, window, greatest) for window in found + begun])


def window_at_home(cycle, window, greatest):
    """A window moved to begin in 0 .. cycle - 1; always green if its travel is the greatest duration of all."""
    first, last, travel = window
    if travel == greatest:
        return 0, cycle - 1, travel
    return first % cycle, first % cycle + last - first, travel


def road_of(passage):
    """The road of the fewest windows of a passage."""
    windows = fewest_windows(passage)
    if len(windows) > MOST_ROADS:
        raise TooLarge(MOST_ROADS)
    if max([travel for _, _, travel in windows]) > MOST_TRAVEL:
        raise TooLarge(MOST_TRAVEL)
    texts = [text_of_window(passage.cycle, window) for window in windows]
    if len(texts) == 1:
        return Road(passage.cycle, texts[0])
    # None of these texts is empty: where no start needs any time, there is one window alone.
    return Road(passage.cycle, "{ " + " | ".join(texts) + " }")


def text_of_window(cycle, window):
    """The words of a window."""
    first, last, travel = window
    words = []
    if last - first + 1 < cycle:
        words.append(f"s:{first}+{last - first + 1}")
    if travel > 0:
        words.append(str(travel))
    return " ".join(words)

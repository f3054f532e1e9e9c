"""Section 13 of the interface: the console."""
import random
import unittest

from greenroads.console import Console
from greenroads.errors import (
    GreenError, InvalidCommand, InvalidCycle, InvalidIndex, InvalidNumber, InvalidSignal, InvalidText, NotPlain, Nothing,
    TooLarge)
from greenroads.passages import gaps, platoons
from greenroads.plans import arrival_with, drive_with, first_touched
from greenroads.roads import Road
from greenroads.rooms import Room
from greenroads.rounds import after_laps, free_starts, pace
from greenroads.starts import count_within, worst_start
from greenroads.windows import road_of
from tests.plan_model import chance_greens
from tests.road_model import chance_text
from tests.wrong import OTHERS

GREAT = 10 ** 30
# All commands that need a room, with valid words.
COMMANDS = [
    "undo", "plan 0 6+3 15", "shift 0 -3 15", "drop 0 15", "at 3", "drive -1", "touched", "changes", "runs", "platoons",
    "gaps", "windows", "within 4", "worst", "laps 3 2", "free", "pace"]


def joined(rows):
    return ";".join(" ".join(str(number) for number in row) for row in rows) or "-"


def greens_text(signal):
    return ",".join(f"{offset}+{length}" for offset, length in signal)


class Answers(unittest.TestCase):
    def test_what_is_told_of_chance_roads(self):
        source = random.Random(201)
        for _ in range(80):
            cycle = source.choice([1, 5, 10, 10 ** 20])
            road = Road(cycle, chance_text(source, cycle, source.randint(0, 8), source.choice([0, 0, 2])))
            console, passage = Console(), road.passage()
            self.assertEqual(console.execute(f"road {cycle} {road.text}".strip()), "ok")
            most = source.randint(0, 3 * cycle)
            told = {
                "runs": joined(passage.runs), "platoons": joined(platoons(passage)), "gaps": joined(gaps(passage)),
                f"within {most}": str(count_within(passage, most, 0, cycle)), "worst": joined([worst_start(passage)]),
                "windows": road_of(passage).text or "-", "changes": "-", "touched": "-"}
            for command, wanted in told.items():
                self.assertEqual(console.execute(command), wanted)
            self.check_rounds(console, road, source)
            self.check_changes(console, road, source)

    def check_rounds(self, console, road, source):
        start, laps = source.randint(-5, 99), source.randint(0, 10 ** 9)
        if not road.is_plain or road.travel == 0:
            for command in ("free", "pace", f"laps {start} {laps}"):
                self.assertRaises(NotPlain, console.execute, command)
            return
        divisor, rows = free_starts(road)
        self.assertEqual(console.execute("free"), ";".join([str(divisor)] + [f"{low} {high}" for low, high in rows]))
        self.assertEqual(console.execute("pace"), joined([pace(road)]))
        self.assertEqual(console.execute(f"laps {start} {laps}"), str(after_laps(road, start, laps)))

    def check_changes(self, console, road, source):
        room = Room(road)
        for number in range(6 if road.signals else 0):
            index, moment = source.randrange(len(road.signals)), source.randint(-20, 60)
            signal, ticks = chance_greens(source, road.cycle), source.randint(-99, 99)
            if number % 2:
                wanted = greens_text(room.shift(index, ticks, moment))
                self.assertEqual(console.execute(f"shift {index} {ticks} {moment}"), wanted)
            else:
                wanted = str(room.plan(index, signal, moment))
                self.assertEqual(console.execute(f"plan {index} {greens_text(signal)} {moment}"), wanted)
            rows = [f"{begun} {changed} {greens_text(greens)}" for begun, changed, greens in room.changes]
            self.assertEqual(console.execute("changes"), ";".join(rows))
            start = source.randint(-30, 60)
            self.assertEqual(console.execute(f"at {start}"), str(arrival_with(road, room.changes, start)))
            self.assertEqual(console.execute(f"drive {start}"), joined(drive_with(road, room.changes, start)))
            found = first_touched(road, room.changes)
            self.assertEqual(console.execute("touched"), "-" if found is None else str(found))
            # What is told of the road without changes stays.
            self.assertEqual(console.execute("runs"), joined(road.passage().runs))
        for moment, index, signal in room.changes[:2]:
            self.assertEqual(console.execute(f"drop {index} {moment}"), greens_text(signal))

    def test_nothing_to_tell(self):
        console = Console()
        told = [console.execute(command) for command in ["road 10", "drive 3", "platoons", "gaps", "windows", "runs"]]
        self.assertEqual(told, ["ok", "-", "-", "-", "-", "0 9 0"])
        self.assertEqual([console.execute(command) for command in ["at -7", "worst", "within 0", "touched", "changes"]],
                         ["-7", "0 0", "10", "-", "-"])
        self.assertEqual([console.execute(row) for row in ["road 10 s:0+5 10 s:5+5", "free"]], ["ok", "10"])
        self.assertEqual([console.execute(row) for row in ["road 10 5", "free", "pace"]], ["ok", "5;0 4", "5 1"])

    def test_known_answers(self):
        console = Console()
        rows = ["road 10 s:0+4 3 s:5+4", "runs", "platoons", "gaps", "windows", "within 4", "worst", "drive 1", "at 1"]
        self.assertEqual([console.execute(row) for row in rows],
                         ["ok", "2 3 5", "4 12 15", "7 14", "s:2+2 3", "3", "11 4", "0 1 1;1 4 5", "5"])
        rows = ["plan 1 6+1,8+1 20", "plan 0 1+1 -5", "changes", "shift 1 -7 20", "changes", "touched", "drop 0 -5", "undo",
                "undo", "undo", "undo", "changes"]
        self.assertEqual([console.execute(row) for row in rows],
                         ["1", "2", "-5 0 1+1;20 1 6+1,8+1", "9+1,1+1", "-5 0 1+1;20 1 9+1,1+1", "2", "1+1", "ok", "ok",
                          "ok", "ok", "-"])
        self.assertRaises(Nothing, console.execute, "undo")
        rows = ["road 10 { s:0+2 5 | 9 }", "windows", "runs", "at 2", "drive 0", "drive 2"]
        self.assertEqual([console.execute(row) for row in rows],
                         ["ok", "{ s:0+2 5 | 9 }", "0 1 5;2 5 11", "11", "0 0 0", "-"])

    def test_a_new_road_is_a_new_room(self):
        console, other = Console(), Console()
        console.execute("road 10 s:0+3 4")
        console.execute("plan 0 6+3 15")
        self.assertRaises(InvalidCommand, other.execute, "changes")
        self.assertEqual([console.execute(row) for row in ["road 10 s:0+3 4", "changes", "at 13"]], ["ok", "-", "24"])
        self.assertRaises(Nothing, console.execute, "undo")
        # One that is no road leaves the room as it is.
        console.execute("plan 0 6+3 15")
        for row in ("road 0 5", "road 10 x", "road 10 ( 5", "road 10 ", "road"):
            self.assertRaises(GreenError, console.execute, row)
        self.assertEqual([console.execute(row) for row in ["changes", "at 13", "undo"]], ["15 0 6+3", "20", "ok"])


class WrongCommands(unittest.TestCase):
    def setUp(self):
        self.console = Console()
        self.console.execute("road 10 s:0+3 4")
        self.console.execute("plan 0 6+3 15")

    def check(self, error, command, console=None):
        with self.subTest(command=repr(command)[:200]):
            with self.assertRaises(GreenError) as caught:
                (console or self.console).execute(command)
            self.assertIs(type(caught.exception), error)
        return caught.exception

    def test_all_commands_need_a_room(self):
        for command in COMMANDS:
            self.check(InvalidCommand, command, Console())
            self.assertIsInstance(self.console.execute(command), str)
            self.console.execute("road 10 s:0+3 4")
            self.console.execute("plan 0 6+3 15")

    def test_values_that_are_no_commands(self):
        for value in OTHERS + [["runs"], ("runs",), b"runs", Console(), self.console]:
            self.check(InvalidCommand, value)
            self.check(InvalidCommand, value, Console())
        for command in ["", " ", "run", "Runs", "runs\n", "-", "5", "road", "ROAD 10 5", "undo undo", "at", "at 3 4", "plan",
                        "plan 0", "plan 0 6+3", "plan 0 6+3 15 1", "shift 0 3", "drop 0", "drop 0 15 1", "laps 3",
                        "laps 3 2 1", "within", "within 4 5", "runs 1", "free 1", "pace 1", "touched 1", "changes 1",
                        "gaps 1", "platoons 1", "windows 1", "worst 1", "advance 3", "log", "preview", "signal_at 0 3"]:
            self.check(InvalidCommand, command)

    def test_empty_words(self):
        for command in COMMANDS:
            for wrong in (" " + command, command + " ", command.replace(" ", "  ", 1) if " " in command else " "):
                self.check(InvalidCommand, wrong)
        for wrong in ("road  10 5", " road 10 5", "road 10 ", "road ", "road  ", "road  10"):
            self.check(InvalidCommand, wrong)
        # In the text they are words of it.
        for wrong, index in [("road 10  ", 0), ("road 10  5", 0), ("road 10 5 ", 1), ("road 10 5  6", 1)]:
            self.assertEqual(self.check(InvalidText, wrong).index, index)

    def test_numbers(self):
        long, longer = "9" * 100, "9" * 101
        for number in ("00", "01", "-0", "--1", "+1", "1_0", "1.0", "1e3", "x", "-", longer, "-" + longer, "- 1", "\u00b2", "\u0663"):
            for command in (f"at {number}", f"drive {number}", f"plan 0 6+3 {number}", f"shift 0 {number} 15",
                            f"shift 0 3 {number}", f"drop 0 {number}", f"laps {number} 2"):
                self.check(InvalidCommand, command)
        for number in ("00", "01", "-1", "-0", "+1", "x", longer):
            for command in (f"within {number}", f"laps 3 {number}", f"plan {number} 6+3 15", f"shift {number} 3 15",
                            f"drop {number} 15", f"road {number} 5", f"plan 0 {number}+3 15", f"plan 0 6+{number} 15",
                            f"plan 0 0+1,{number}+3 15"):
                self.check(InvalidCommand, command)
        passes = int(long) + 1 + 4
        self.assertEqual([self.console.execute(f"at {long}"), self.console.execute(f"within {long}")],
                         [str(arrival_with(Road(10, "s:0+3 4"), [(15, 0, ((6, 3),))], passes - 5)), "10"])
        self.assertEqual(self.console.execute(f"plan 0 6+3 -{long}"), "2")
        self.assertEqual([self.console.execute(f"shift 0 -{long} {long}"), self.console.execute(f"drop 0 {long}")],
                         ["7+3", "7+3"])
        self.check(InvalidCycle, f"road {long} 5")
        self.check(InvalidIndex, f"drop {long} 15")
        self.check(InvalidSignal, f"plan 0 {long}+{long} 15")
        self.check(InvalidNumber, f"laps 3 {long}")

    def test_greens(self):
        for greens in ("", "6", "+", "6+", "+3", "6+3,", ",6+3", "6+3,,6+3", "6+3+1", "6+3;6+3", "6-3", "6+-3", "-6+3", "6,3",
                       "s:6+3", "6 +3"):
            self.check(InvalidCommand, f"plan 0 {greens} 15")
        # Their bounds are those of the call.
        for greens in ("10+3", "6+0", "6+11", ",".join(["6+3"] * 7), "0+1,10+1"):
            self.check(InvalidSignal, f"plan 0 {greens} 15")
        self.assertEqual(self.console.execute("plan 0 " + ",".join(["6+3"] * 6) + " 15"), "1")

    def test_errors_of_the_calls(self):
        self.check(InvalidCycle, "road 0 5")
        self.check(InvalidCycle, f"road {GREAT + 1} x")
        self.assertEqual(self.check(InvalidText, "road 10 5 x 6").index, 1)
        self.assertEqual(self.check(InvalidText, "road 10 ( 5").index, 2)
        self.assertEqual(self.check(TooLarge, "road 10 ( ( ( 5 )40 )40 )40").limit, 2000)
        for command in ("plan 1 6+3 15", "shift 1 3 15", "drop 1 15", "drop 0 14"):
            self.check(InvalidIndex, command)
        self.check(InvalidNumber, f"laps 0 {GREAT + 1}")
        self.assertEqual(self.console.execute(f"laps 0 {GREAT}"), str(after_laps(Road(10, "s:0+3 4"), 0, GREAT)))

    def test_too_much(self):
        self.console.execute("road 10 ( s:0+3 4 )40")
        for moment in range(3):
            self.console.execute(f"plan 0 {moment}+3 {moment}")
        for command in ("at 5", "drive 5", "touched"):
            self.assertEqual(self.check(TooLarge, command).limit, 100)
        self.assertEqual([self.console.execute(row) for row in ("undo", "at 5")],
                         ["ok", str(arrival_with(Road(10, "( s:0+3 4 )40"), [(0, 0, ((0, 3),)), (1, 0, ((1, 3),))], 5))])
        for moment in range(2, 20):
            self.console.execute(f"plan 0 1+3 {moment}")
        self.assertEqual(self.check(TooLarge, "plan 0 1+3 20").limit, 20)
        self.assertEqual(self.check(TooLarge, "shift 0 1 20").limit, 20)
        self.console.execute(f"road {GREAT} {GREAT} {GREAT}")
        self.assertEqual(self.check(TooLarge, "windows").limit, GREAT)
        signals = [f"s:{at * 1000}+{10 ** 6 - 10 - at} 1" for at in range(80)]
        self.console.execute(f"road {10 ** 6} {' '.join(signals)}")
        self.assertEqual(self.check(TooLarge, "windows").limit, 60)

    def test_errors_change_nothing(self):
        for command in ("plan 1 6+3 15", "plan 0 6+11 15", "drop 0 14", "road 0 5", "runs 1", None, "laps 0 x"):
            self.assertRaises(GreenError, self.console.execute, command)
        self.assertEqual([self.console.execute(row) for row in ("changes", "undo", "changes")], ["15 0 6+3", "ok", "-"])


if __name__ == "__main__":
    unittest.main()

"""The interface: every name stands in the file and the class under which the document lists it."""
import importlib
import inspect
import unittest

LISTED = {
    "greenroads.signals": {
        "is_signal": "value cycle", "is_green": "cycle signal moment", "next_green": "cycle signal moment",
        "last_green": "cycle signal moment", "count_green": "cycle signal low high",
        "shortest_greens": "cycle signal", "first_hit": "cycle begin step first length"},
    "greenroads.passages": {
        "travel_of": "cycle ticks", "pass_of": "cycle signal", "platoons": "passage", "gaps": "passage",
        "first_difference": "one other", "first_later": "one other", "Passage": "cycle runs"},
    "greenroads.roads": {
        "Road": "cycle text", "drive": "road start", "same_roads": "road other", "needless_signals": "road"},
    "greenroads.starts": {
        "count_within": "passage most low high", "nth_within": "passage most index", "total_time": "passage low high",
        "worst_start": "passage", "best_start": "passage"},
    "greenroads.windows": {
        "from_windows": "cycle windows", "fewest_windows": "passage", "road_of": "passage"},
    "greenroads.rounds": {
        "after_laps": "road start laps", "total_wait": "road start laps", "first_wait": "road start",
        "free_starts": "road", "wait_points": "road", "next_wait": "road point", "ring": "road start", "pace": "road",
        "free_offsets": "road index"},
    "greenroads.nets": {
        "Net": "cycle streets", "is_route": "net begin goal value", "useless_streets": "net",
        "loss": "net index begin goal", "same_nets": "net other"},
    "greenroads.courses": {
        "Course": "cycle parts", "course_of": "passage", "breaks": "course", "settled_from": "course",
        "course_difference": "one other", "greatest_loss": "one other"},
    "greenroads.plans": {
        "course_with": "road changes", "arrival_with": "road changes start", "drive_with": "road changes start",
        "first_touched": "road changes", "worst_loss": "road changes",
        "net_earliest": "net changes begin moment goal", "net_courses": "net changes begin"},
    "greenroads.records": {
        "fits": "cycle travel records", "lowest": "cycle travel records", "highest": "cycle travel records",
        "certain": "cycle travel records start", "widest": "cycle travel records"},
    "greenroads.rooms": {"Room": "road", "ClockRoom": "road moment"},
    "greenroads.console": {"Console": ""}}
METHODS = {
    ("greenroads.passages", "Passage"): {
        "__init__": "self cycle runs", "__call__": "self start", "__add__": "self other", "__or__": "self other",
        "__and__": "self other", "__eq__": "self other", "latest": "self"},
    ("greenroads.roads", "Road"): {
        "__init__": "self cycle text", "__call__": "self start", "__eq__": "self other", "passage": "self"},
    ("greenroads.nets", "Net"): {
        "__init__": "self cycle streets", "__eq__": "self other", "earliest": "self begin moment goal",
        "route": "self begin moment goal", "passages": "self begin"},
    ("greenroads.courses", "Course"): {
        "__init__": "self cycle parts", "__call__": "self start", "__add__": "self other", "__or__": "self other",
        "__and__": "self other", "__eq__": "self other"},
    ("greenroads.rooms", "Room"): {
        "__init__": "self road", "__len__": "self", "__eq__": "self other", "course": "self",
        "signal_at": "self index moment", "arrival": "self start", "plan": "self index signal moment",
        "shift": "self index ticks moment", "drop": "self index moment", "undo": "self", "log": "self",
        "preview": "self steps"},
    ("greenroads.rooms", "ClockRoom"): {
        "__init__": "self road moment", "__eq__": "self other", "plan": "self index signal moment",
        "shift": "self index ticks moment", "drop": "self index moment", "advance": "self ticks",
        "preview": "self steps"},
    ("greenroads.console", "Console"): {"__init__": "self", "execute": "self command"}}


def words_of(callable_thing):
    return " ".join(inspect.signature(callable_thing).parameters)


class Interface(unittest.TestCase):
    def test_names_files_and_arguments(self):
        for path, names in LISTED.items():
            module = importlib.import_module(path)
            for name, words in names.items():
                with self.subTest(name):
                    self.assertEqual(getattr(module, name).__module__, path)
                    self.assertEqual(words_of(getattr(module, name)), words)

    def test_methods_stand_in_their_class(self):
        for (path, name), methods in METHODS.items():
            owner = getattr(importlib.import_module(path), name)
            for method, words in methods.items():
                with self.subTest(method):
                    self.assertEqual(words_of(vars(owner)[method]), words)

    def test_kinds_of_returned_values(self):
        signals = importlib.import_module("greenroads.signals")
        passages = importlib.import_module("greenroads.passages")
        passage = passages.Passage(10, ((2, 3, 5),))
        signal = ((0, 4),)
        self.assertIs(type(signals.is_green(10, signal, 3)), bool)
        self.assertIs(type(signals.is_signal(signal, 10)), bool)
        for found in (signals.next_green(10, signal, 5), signals.last_green(10, signal, 5), passage(3), passage.cycle,
                      signals.count_green(10, signal, 0, 9), signals.count_green(10, signal, 9, 0),
                      signals.first_hit(10, 0, 4, 3, 2)):
            self.assertIs(type(found), int)
        for found in (passage.runs, signals.shortest_greens(10, signal), passage.latest().runs):
            self.assertIs(type(found), tuple)
            self.assertTrue(all(type(row) is tuple for row in found))
        for found in (passages.platoons(passage), passages.gaps(passage)):
            self.assertIs(type(found), list)
            self.assertTrue(all(type(row) is tuple for row in found))
        for found in (passage + passage, passage | passage, passage & passage, passage.latest()):
            self.assertIs(type(found), passages.Passage)

    def test_kinds_of_what_roads_return(self):
        roads = importlib.import_module("greenroads.roads")
        passages = importlib.import_module("greenroads.passages")
        road = roads.Road(10, "s:0+4,6+1 { s:1+3 | 5 }")
        self.assertEqual([type(road.cycle), type(road.text), type(road.is_plain)], [int, str, bool])
        for found in (road.signals, road.signals[0], road.signals[0][0], road.passes):
            self.assertIs(type(found), tuple)
        self.assertIs(type(road.passage()), passages.Passage)
        for found in (road(3), roads.Road(10, "3").travel):
            self.assertIs(type(found), int)
        for found in (roads.drive(road, 3), roads.needless_signals(road)):
            self.assertIs(type(found), list)
        self.assertTrue(all(type(row) is tuple for row in roads.drive(road, 3)))
        self.assertIs(type(roads.same_roads(road, road)), bool)

    def test_kinds_of_what_is_told_of_passages(self):
        starts = importlib.import_module("greenroads.starts")
        windows = importlib.import_module("greenroads.windows")
        passages = importlib.import_module("greenroads.passages")
        passage = passages.Passage(10, ((2, 3, 5),))
        for found in (starts.count_within(passage, 4, 0, 9), starts.count_within(passage, 4, 9, 0),
                      starts.total_time(passage, 0, 9), starts.total_time(passage, 9, 0),
                      starts.nth_within(passage, 4, 0)):
            self.assertIs(type(found), int)
        for found in (starts.worst_start(passage), starts.best_start(passage)):
            self.assertEqual([type(part) for part in found], [int, int])
            self.assertIs(type(found), tuple)
        found = windows.fewest_windows(passage)
        self.assertIs(type(found), list)
        self.assertTrue(all(type(row) is tuple for row in found))
        self.assertIs(type(windows.from_windows(10, found)), passages.Passage)
        self.assertEqual(type(windows.road_of(passage)).__name__, "Road")

    def test_kinds_of_what_rounds_return(self):
        rounds = importlib.import_module("greenroads.rounds")
        roads = importlib.import_module("greenroads.roads")
        road = roads.Road(10, "s:0+6 1")
        for found in (rounds.after_laps(road, 0, 7), rounds.total_wait(road, 0, 7)):
            self.assertIs(type(found), int)
        for found in (rounds.first_wait(road, 0), rounds.pace(road)):
            self.assertIs(type(found), tuple)
            self.assertTrue(all(type(part) is int for part in found))
        for found in (rounds.free_starts(road), rounds.free_offsets(road, 0)):
            self.assertEqual([type(found), type(found[0]), type(found[1])], [tuple, int, list])
        self.assertEqual([type(row) for row in rounds.free_starts(roads.Road(10, "s:0+3,5+3 5"))[1]], [tuple])
        self.assertEqual([type(rounds.wait_points(road)), type(rounds.wait_points(road)[0])], [list, tuple])
        self.assertEqual([type(part) for part in rounds.next_wait(road, (0, 0))], [int, tuple])
        self.assertEqual([type(part) for part in rounds.ring(road, 0)], [int, list, int, int])
        self.assertEqual([type(rounds.next_wait(road, (0, 0))), type(rounds.ring(road, 0))], [tuple, tuple])

    def test_kinds_of_what_nets_return(self):
        nets = importlib.import_module("greenroads.nets")
        net = nets.Net(10, [("a", "b", "s:0+2 5"), ("a", "b", "9"), ("b", "c", "s:5+4 1"), ("c", "a", "2")])
        self.assertEqual([type(net.cycle), type(net.streets), type(net.places)], [int, tuple, list])
        self.assertEqual([type(net.earliest("a", 2, "c")), type(net.route("a", 2, "c"))], [int, list])
        found = net.passages("a")
        self.assertEqual([type(found), list(found)], [dict, ["a", "b", "c"]])
        self.assertEqual({type(passage).__name__ for passage in found.values()}, {"Passage"})
        self.assertEqual([type(nets.useless_streets(net)), type(nets.is_route(net, "a", "b", [0]))], [list, bool])
        self.assertEqual([type(nets.loss(net, 1, "a", "b")), type(nets.same_nets(net, net))], [tuple, bool])

    def test_kinds_of_what_courses_return(self):
        courses = importlib.import_module("greenroads.courses")
        passages = importlib.import_module("greenroads.passages")
        old, new = passages.Passage(10, ((0, 2, 4),)), passages.Passage(10, ((6, 8, 10),))
        course = courses.Course(10, ((12, old), (15, 20), (None, new)))
        self.assertEqual([type(course.cycle), type(course.parts), type(course(3))], [int, tuple, int])
        self.assertTrue(all(type(part) is tuple for part in course.parts))
        for found in (course + course, course | course, course & course, courses.course_of(old)):
            self.assertIs(type(found), courses.Course)
            self.assertTrue(all(type(what) in (int, passages.Passage) for _, what in found.parts))
        self.assertEqual([type(courses.breaks(course)), type(courses.settled_from(course))], [list, tuple])
        self.assertEqual([type(part) for part in courses.settled_from(course)], [int, passages.Passage])
        other = courses.course_of(old)
        self.assertEqual([type(courses.course_difference(course, other)), type(courses.greatest_loss(course, other))],
                         [int, tuple])

    def test_kinds_of_what_plans_return(self):
        plans = importlib.import_module("greenroads.plans")
        roads = importlib.import_module("greenroads.roads")
        nets = importlib.import_module("greenroads.nets")
        road, changes = roads.Road(10, "s:0+3 4"), [(15, 0, ((6, 3),))]
        self.assertEqual(type(plans.course_with(road, changes)).__name__, "Course")
        self.assertEqual([type(plans.arrival_with(road, changes, 3)), type(plans.first_touched(road, changes))],
                         [int, int])
        found = plans.drive_with(road, changes, 3)
        self.assertEqual([type(found), type(found[0]), type(plans.worst_loss(road, changes))], [list, tuple, tuple])
        net = nets.Net(10, [("a", "b", "s:0+3 4"), ("b", "c", "1")])
        found = plans.net_courses(net, [(15, 0, 0, ((6, 3),))], "a")
        self.assertEqual([type(found), list(found)], [dict, ["a", "b", "c"]])
        self.assertEqual({type(course).__name__ for course in found.values()}, {"Course"})
        self.assertIs(type(plans.net_earliest(net, [], "a", 3, "c")), int)

    def test_kinds_of_what_records_return(self):
        records = importlib.import_module("greenroads.records")
        rows = [(0, 5), (3, 6)]
        self.assertIs(type(records.fits(10, 2, rows)), bool)
        for found in (records.lowest(10, 2, rows), records.highest(10, 2, rows)):
            self.assertEqual(type(found).__name__, "Passage")
        self.assertEqual([type(records.certain(10, 2, rows, 3)), type(records.widest(10, 2, rows))], [int, tuple])

    def test_kinds_of_what_rooms_return(self):
        rooms = importlib.import_module("greenroads.rooms")
        roads = importlib.import_module("greenroads.roads")
        console = importlib.import_module("greenroads.console").Console()
        road = roads.Road(10, "s:0+3 4")
        for room in (rooms.Room(road), rooms.ClockRoom(road, 3)):
            self.assertIsInstance(room, rooms.Room)
            self.assertEqual([type(room.plan(0, ((6, 3),), 15)), type(room.shift(0, 1, 20))], [int, tuple])
            self.assertEqual([type(room.changes), type(room.changes[0]), type(len(room))], [list, tuple, int])
            self.assertEqual([type(room.signal_at(0, 3)), type(room.arrival(3)), type(room.log())], [tuple, int, list])
            self.assertEqual([type(room.course()).__name__, type(room.road)], ["Course", roads.Road])
            self.assertEqual([type(room.preview(("drop", 0, 15))), type(room.drop(0, 15)), room.undo()],
                             [list, tuple, None])
        self.assertEqual([type(room.now), type(room.advance(3))], [int, int])
        self.assertIs(type(console.execute("road 10 5")), str)

    def test_attributes_are_set_when_an_object_is_made(self):
        for path, name, arguments, names in [
                ("passages", "Passage", (10, ((2, 3, 5),)), "cycle runs"),
                ("roads", "Road", (10, "5"), "cycle text signals passes is_plain travel"),
                ("nets", "Net", (10, [("a", "b", "1")]), "cycle streets places"),
                ("courses", "Course", (10, ((None, 5),)), "cycle parts")]:
            made = getattr(importlib.import_module(f"greenroads.{path}"), name)(*arguments)
            self.assertTrue(all(hasattr(made, attribute) for attribute in names.split(" ")))
        rooms = importlib.import_module("greenroads.rooms")
        road = importlib.import_module("greenroads.roads").Road(10, "5")
        self.assertTrue(all(hasattr(rooms.ClockRoom(road, 3), name) for name in ("road", "changes", "now")))
        self.assertTrue(all(hasattr(rooms.Room(road), name) for name in ("road", "changes")))


if __name__ == "__main__":
    unittest.main()

"""The interface: every name stands in the file and the class under which the document lists it."""
import importlib
import inspect
import unittest

LISTED = {
    "greenroads.signals": {
        "is_signal": "value cycle", "is_green": "cycle signal moment", "next_green": "cycle signal moment",
        "last_green": "cycle signal moment", "count_green": "cycle signal low high",
        "shortest_greens": "cycle signal", "first_hit": "cycle begin step first length"},
    "greenroads.passages": {
        "travel_of": "cycle ticks", "pass_of": "cycle signal", "platoons": "passage", "gaps": "passage",
        "first_difference": "one other", "first_later": "one other", "Passage": "cycle runs"},
    "greenroads.roads": {
        "Road": "cycle text", "drive": "road start", "same_roads": "road other", "needless_signals": "road"},
    "greenroads.starts": {
        "count_within": "passage most low high", "nth_within": "passage most index", "total_time": "passage low high",
        "worst_start": "passage", "best_start": "passage"},
    "greenroads.windows": {
        "from_windows": "cycle windows", "fewest_windows": "passage", "road_of": "passage"}}
METHODS = {
    ("greenroads.passages", "Passage"): {
        "__init__": "self cycle runs", "__call__": "self start", "__add__": "self other", "__or__": "self other",
        "__and__": "self other", "__eq__": "self other", "latest": "self"},
    ("greenroads.roads", "Road"): {
        "__init__": "self cycle text", "__call__": "self start", "__eq__": "self other", "passage": "self"}}


def words_of(callable_thing):
    return " ".join(inspect.signature(callable_thing).parameters)


class Interface(unittest.TestCase):
    def test_names_files_and_arguments(self):
        for path, names in LISTED.items():
            module = importlib.import_module(path)
            for name, words in names.items():
                with self.subTest(name):
                    self.assertEqual(getattr(module, name).__module__, path)
                    self.assertEqual(words_of(getattr(module, name)), words)

    def test_methods_stand_in_their_class(self):
        for (path, name), methods in METHODS.items():
            owner = getattr(importlib.import_module(path), name)
            for method, words in methods.items():
                with self.subTest(method):
                    self.assertEqual(words_of(vars(owner)[method]), words)

    def test_kinds_of_returned_values(self):
        signals = importlib.import_module("greenroads.signals")
        passages = importlib.import_module("greenroads.passages")
        passage = passages.Passage(10, ((2, 3, 5),))
        signal = ((0, 4),)
        self.assertIs(type(signals.is_green(10, signal, 3)), bool)
        self.assertIs(type(signals.is_signal(signal, 10)), bool)
        for found in (signals.next_green(10, signal, 5), signals.last_green(10, signal, 5), passage(3), passage.cycle,
                      signals.count_green(10, signal, 0, 9), signals.count_green(10, signal, 9, 0),
                      signals.first_hit(10, 0, 4, 3, 2)):
            self.assertIs(type(found), int)
        for found in (passage.runs, signals.shortest_greens(10, signal), passage.latest().runs):
            self.assertIs(type(found), tuple)
            self.assertTrue(all(type(row) is tuple for row in found))
        for found in (passages.platoons(passage), passages.gaps(passage)):
            self.assertIs(type(found), list)
            self.assertTrue(all(type(row) is tuple for row in found))
        for found in (passage + passage, passage | passage, passage & passage, passage.latest()):
            self.assertIs(type(found), passages.Passage)

    def test_kinds_of_what_roads_return(self):
        roads = importlib.import_module("greenroads.roads")
        passages = importlib.import_module("greenroads.passages")
        road = roads.Road(10, "s:0+4,6+1 { s:1+3 | 5 }")
        self.assertEqual([type(road.cycle), type(road.text), type(road.is_plain)], [int, str, bool])
        for found in (road.signals, road.signals[0], road.signals[0][0], road.passes):
            self.assertIs(type(found), tuple)
        self.assertIs(type(road.passage()), passages.Passage)
        for found in (road(3), roads.Road(10, "3").travel):
            self.assertIs(type(found), int)
        for found in (roads.drive(road, 3), roads.needless_signals(road)):
            self.assertIs(type(found), list)
        self.assertTrue(all(type(row) is tuple for row in roads.drive(road, 3)))
        self.assertIs(type(roads.same_roads(road, road)), bool)

    def test_kinds_of_what_is_told_of_passages(self):
        starts = importlib.import_module("greenroads.starts")
        windows = importlib.import_module("greenroads.windows")
        passages = importlib.import_module("greenroads.passages")
        passage = passages.Passage(10, ((2, 3, 5),))
        for found in (starts.count_within(passage, 4, 0, 9), starts.count_within(passage, 4, 9, 0),
                      starts.total_time(passage, 0, 9), starts.total_time(passage, 9, 0),
                      starts.nth_within(passage, 4, 0)):
            self.assertIs(type(found), int)
        for found in (starts.worst_start(passage), starts.best_start(passage)):
            self.assertEqual([type(part) for part in found], [int, int])
            self.assertIs(type(found), tuple)
        found = windows.fewest_windows(passage)
        self.assertIs(type(found), list)
        self.assertTrue(all(type(row) is tuple for row in found))
        self.assertIs(type(windows.from_windows(10, found)), passages.Passage)
        self.assertEqual(type(windows.road_of(passage)).__name__, "Road")


if __name__ == "__main__":
    unittest.main()

"""Section 12 of the interface: rooms."""
import random
import unittest

from greenroads.errors import (
    GreenError, InvalidIndex, InvalidMoment, InvalidNumber, InvalidSignal, InvalidStep, Nothing, TooLarge)
from greenroads.plans import arrival_with, course_with
from greenroads.roads import Road
from greenroads.rooms import ClockRoom, Room
from tests.plan_model import chance_greens

GREAT = 10 ** 30
ROAD = Road(10, "s:0+3 4 ( s:5+2,8+1 1 )2")


class ModelRoom:
    """A room as a list of dicts of changes, one for each call that is not undone."""

    def __init__(self, road, now=None):
        self.road, self.states, self.names, self.clocks = road, [{}], [], [now]

    def take(self, name, state, now=None):
        self.states.append(state)
        self.names.append(name)
        self.clocks.append(self.clocks[-1] if now is None else now)

    def undo(self):
        self.states.pop()
        self.names.pop()
        self.clocks.pop()

    def changes(self):
        return [(moment, index, signal) for (moment, index), signal in sorted(self.states[-1].items())]

    def signal_at(self, index, moment):
        signals = [signal for begun, changed, signal in self.changes() if changed == index and begun <= moment]
        return signals[-1] if signals else self.road.signals[index]


class RoomCalls(unittest.TestCase):
    def check_same(self, room, model):
        self.assertEqual([room.changes, len(room), room.log()], [model.changes(), len(model.changes()), model.names])
        for index in range(len(room.road.signals)):
            for moment in range(-3, 24):
                self.assertEqual(room.signal_at(index, moment), model.signal_at(index, moment))

    def one_call(self, source, room, model):
        """One call of both, which may be one that raises an error and changes nothing."""
        index, moment = source.randrange(2), source.randint(-2, 20)
        late = model.clocks[-1] is not None and moment < model.clocks[-1]
        state, name = dict(model.states[-1]), source.choice("plan plan shift shift drop undo advance".split())
        if name == "undo":
            if not model.names:
                self.assertRaises(Nothing, room.undo)
            else:
                self.assertIsNone(room.undo())
                model.undo()
        elif name == "advance":
            if model.clocks[-1] is not None:
                ticks = source.randint(1, 2)
                self.assertEqual(room.advance(ticks), model.clocks[-1] + ticks)
                model.take(name, state, model.clocks[-1] + ticks)
        elif late:
            call, arguments = source.choice(
                [(room.plan, (index, ((1, 1),))), (room.shift, (index, 3)), (room.drop, (index,))])
            self.assertRaises(InvalidMoment, call, *arguments, moment)
        elif name == "drop":
            if (moment, index) not in state:
                self.assertRaises(InvalidIndex, room.drop, index, moment)
            else:
                self.assertEqual(room.drop(index, moment), state.pop((moment, index)))
                model.take(name, state)
        else:
            self.one_change(source, room, model, name, (moment, index))

    def one_change(self, source, room, model, name, place):
        state, (moment, index) = dict(model.states[-1]), place
        ticks = source.randint(-30, 30)
        signal = chance_greens(source, 10)
        if name == "shift":
            signal = tuple(((offset + ticks) % 10, length) for offset, length in model.signal_at(index, moment))
        state[place] = signal
        calls = {"plan": lambda: room.plan(index, signal, moment), "shift": lambda: room.shift(index, ticks, moment)}
        if len(state) > 20:
            self.assertRaises(TooLarge, calls[name])
        else:
            self.assertEqual(calls[name](), len(state) if name == "plan" else signal)
            model.take(name, state)

    def test_chance_calls(self):
        source = random.Random(191)
        for _ in range(30):
            now = source.choice([None, -5, 3])
            room = Room(ROAD) if now is None else ClockRoom(ROAD, now)
            model = ModelRoom(ROAD, now)
            for _ in range(source.choice([20, 100])):
                self.one_call(source, room, model)
                self.check_same(room, model)
                if now is not None:
                    self.assertEqual(room.now, model.clocks[-1])
            if len(room) < 15:
                for start in range(-20, 40, 7):
                    self.assertEqual(room.arrival(start), arrival_with(ROAD, room.changes, start))
                self.assertTrue(room.course() == course_with(ROAD, room.changes))

    def test_previews(self):
        source = random.Random(192)
        for _ in range(60):
            now = source.choice([None, 3])
            room, twin = [Room(ROAD) if now is None else ClockRoom(ROAD, now) for _ in range(2)]
            for number in range(5):
                room.plan(number % 2, ((number, 2),), number + 3)
                twin.plan(number % 2, ((number, 2),), number + 3)
            steps = [self.chance_step(source, now) for _ in range(source.randint(0, 5))]
            told = dict(vars(room))
            try:
                wanted = [getattr(twin, name)(*arguments) for name, *arguments in steps]
            except GreenError as error:
                self.assertRaises(type(error), room.preview, *steps)
            else:
                self.assertEqual(room.preview(*steps), wanted)
                # What was previewed can be done, and the room itself has not changed.
                self.assertEqual([getattr(room, name)(*arguments) for name, *arguments in steps], wanted)
                self.assertTrue(room == twin)
                continue
            self.assertEqual(vars(room), told)

    def chance_step(self, source, now):
        index, moment = source.randrange(2), source.randint(3, 12)
        steps = [("plan", index, chance_greens(source, 10), moment), ("shift", index, source.randint(-9, 9), moment),
                 ("drop", index, moment)]
        return source.choice(steps + ([("advance", source.randint(1, 3))] if now is not None else []))


class KnownRooms(unittest.TestCase):
    def test_a_new_room(self):
        room = Room(ROAD)
        self.assertEqual([room.road == ROAD, room.changes, len(room), room.log()], [True, [], 0, []])
        self.assertTrue(room.course() == course_with(ROAD, []))
        self.assertEqual([room.signal_at(1, -99), room.signal_at(1, 10 ** 99)], [((5, 2), (8, 1))] * 2)
        self.assertRaises(Nothing, room.undo)

    def test_greens_keep_their_order_when_they_are_shifted(self):
        room = Room(ROAD)
        self.assertEqual(room.shift(1, 3, 15), ((8, 2), (1, 1)))
        self.assertEqual(room.shift(1, -10 ** 99 - 4, 20), ((4, 2), (7, 1)))
        # By a change at this moment, too, which it takes the place of.
        self.assertEqual([room.shift(1, 1, 20), len(room)], [((5, 2), (8, 1)), 2])
        # And by the last change before, not by one behind.
        self.assertEqual(room.shift(1, 0, 17), ((8, 2), (1, 1)))
        self.assertEqual(room.shift(1, 0, 14), ((5, 2), (8, 1)))
        self.assertEqual(room.log(), ["shift"] * 5)

    def test_twenty_changes(self):
        room = Room(ROAD)
        for moment in range(20):
            self.assertEqual(room.plan(moment % 2, ((moment % 10, 3),), moment), moment + 1)
        for call, arguments in [(room.plan, (0, ((1, 1),), 20)), (room.plan, (1, ((1, 1),), 0)), (room.shift, (0, 3, 20))]:
            with self.assertRaises(TooLarge) as caught:
                call(*arguments)
            self.assertEqual(caught.exception.limit, 20)
        # In place of another one, it is not one more; and it is checked last.
        self.assertEqual([room.plan(0, ((1, 1),), 18), len(room), room.shift(1, 1, 19)], [20, 20, ((0, 3),)])
        self.assertRaises(InvalidMoment, room.plan, 0, ((1, 1),), None)
        self.assertEqual([room.drop(0, 18), len(room), room.plan(0, ((1, 1),), 20)], [((1, 1),), 19, 20])
        self.assertEqual([len(room.log()), room.undo(), len(room), room.undo(), len(room)], [24, None, 19, None, 20])

    def test_more_than_a_hundred_pairs(self):
        room = Room(Road(10, "( s:0+3 4 )40 s:0+1"))
        for moment in range(3):
            room.plan(0, ((moment, 3),), moment)
        for call, arguments in [(room.course, ()), (room.arrival, (5,))]:
            with self.assertRaises(TooLarge) as caught:
                call(*arguments)
            self.assertEqual(caught.exception.limit, 100)
        self.assertRaises(InvalidMoment, room.arrival, None)
        # The plans may still be changed and asked for.
        self.assertEqual([room.signal_at(0, 2), room.plan(1, ((2, 1),), 0), room.drop(0, 1)],
                         [((2, 3),), 4, ((1, 3),)])
        self.assertEqual(room.arrival(5), arrival_with(room.road, room.changes, 5))

    def test_equality(self):
        room, twin = Room(ROAD), Room(Road(10, ROAD.text))
        self.assertIs(room == twin, True)
        room.plan(0, ((1, 1),), 5)
        self.assertIs(room == twin, False)
        twin.plan(0, ((2, 1),), 5)
        self.assertIs(room == twin, False)
        twin.shift(0, -1, 5)
        self.assertIs(room == twin, True)
        self.assertNotEqual(room.log(), twin.log())
        others = [ClockRoom(ROAD, 5), Room(Road(10, "s:0+3 4")), Room(Road(20, ROAD.text)), ROAD, room.changes, None, 5]
        for other in others:
            self.assertIs(Room(ROAD) == other, False)
            self.assertIs(Room(ROAD) != other, True)
            self.assertIs(other == Room(ROAD), False)

    def test_equality_of_clock_rooms(self):
        room, twin = ClockRoom(ROAD, 5), ClockRoom(ROAD, 2)
        self.assertIs(room == twin, False)
        twin.advance(3)
        self.assertIs(room == twin, True)
        twin.plan(0, ((1, 1),), 5)
        self.assertIs(room == twin, False)
        twin.undo()
        self.assertIs(room == twin, True)
        for other in (Room(ROAD), ClockRoom(Road(10, "5"), 5), 5, None):
            self.assertIs(room == other, False)
            self.assertIs(other == room, False)

    def test_the_clock(self):
        room = ClockRoom(ROAD, 7)
        # At the moment of the clock itself, changes are still made.
        self.assertEqual([room.now, room.plan(0, ((1, 1),), 7), room.shift(0, 1, 7)], [7, 1, ((2, 1),)])
        self.assertEqual([room.advance(1), room.now], [8, 8])
        for call, arguments in [(room.plan, (0, ((1, 1),))), (room.shift, (0, 1)), (room.drop, (0,))]:
            for moment in (7, -10 ** 99):
                self.assertRaises(InvalidMoment, call, *arguments, moment)
            # At its place in the order of the parameters.
            self.assertRaises(InvalidIndex, call, 2, *arguments[1:], 7)
        self.assertRaises(InvalidSignal, room.plan, 0, (), 7)
        self.assertRaises(InvalidNumber, room.shift, 0, None, 7)
        self.assertEqual([room.signal_at(0, 7), room.signal_at(0, 6), room.arrival(-5)],
                         [((2, 1),), ((0, 3),), arrival_with(ROAD, room.changes, -5)])
        self.assertEqual([room.undo(), room.now, room.drop(0, 7), room.log()],
                         [None, 7, ((2, 1),), ["plan", "shift", "drop"]])
        for ticks in (0, -1, GREAT + 1, True, None, "1"):
            self.assertRaises(InvalidNumber, room.advance, ticks)
        self.assertEqual([room.advance(GREAT), room.advance(1), room.undo(), room.now],
                         [GREAT + 7, GREAT + 8, None, GREAT + 7])

    def test_the_moment_before_now_comes_ahead_of_the_number_of_changes(self):
        room = ClockRoom(ROAD, 0)
        for moment in range(20):
            room.plan(0, ((1, 1),), moment)
        room.advance(5)
        self.assertRaises(InvalidMoment, room.plan, 0, ((1, 1),), -1)
        self.assertRaises(InvalidMoment, room.plan, 0, ((1, 1),), 4)
        self.assertRaises(TooLarge, room.plan, 0, ((1, 1),), 20)
        self.assertRaises(InvalidMoment, room.drop, 1, 4)
        self.assertRaises(InvalidIndex, room.drop, 1, 5)

    def test_steps(self):
        room, clock = Room(ROAD), ClockRoom(ROAD, 0)
        good = ("plan", 0, ((1, 1),), 5)
        for step in [None, 5, "plan", (), ["plan", 0, ((1, 1),), 5], ("plan",), ("plan", 0, ((1, 1),)), good + (1,),
                     ("shift", 0, 5), ("drop", 0), ("drop", 0, 5, 5), ("undo",), ("log",), ("advance",), ("course",),
                     ("arrival", 5), ("signal_at", 0, 5), ("preview",), (5, 0, 5), (None, 0, 5), (["drop"], 0, 5),
                     (("drop",), 0, 5), (True, 0, 5), (b"drop", 0, 5), ("Drop", 0, 5), ("advance", 1, 2), {}, set()]:
            for place in (room, clock):
                self.assertRaises(InvalidStep, place.preview, step)
                # All steps are looked at first.
                self.assertRaises(InvalidStep, place.preview, ("plan", None, None, None), step)
        self.assertRaises(InvalidStep, room.preview, ("advance", 1))
        self.assertEqual([clock.preview(("advance", 1), ("advance", 2)), clock.now], [[1, 3], 0])
        self.assertEqual([room.preview(), clock.preview(), room.preview(good, good)], [[], [], [1, 1]])
        for step, error in [(("plan", 2, ((1, 1),), 5), InvalidIndex), (("plan", 0, 5, 5), InvalidSignal),
                            (("shift", 0, None, 5), InvalidNumber), (("drop", 0, 5), InvalidIndex)]:
            self.assertRaises(error, room.preview, step)
            self.assertRaises(error, clock.preview, ("advance", 2), step)
        self.assertRaises(InvalidMoment, clock.preview, ("advance", 6), good)
        self.assertEqual([room.log(), clock.log(), clock.now, len(room), len(clock)], [[], [], 0, 0, 0])

    def test_lists_are_new(self):
        room = Room(ROAD)
        room.plan(0, ((1, 1),), 5)
        room.changes.clear()
        room.log().clear()
        room.preview(("drop", 0, 5)).clear()
        self.assertEqual([room.changes, room.log()], [[(5, 0, ((1, 1),))], ["plan"]])
        self.assertIs(room.changes is room.changes, False)

    def test_two_hundred_calls(self):
        room = Room(ROAD)
        for number in range(100):
            room.plan(number % 2, ((number % 10, 1),), number // 10)
        self.assertEqual([len(room), len(room.log())], [20, 100])
        for _ in range(100):
            room.undo()
        self.assertEqual([room.changes, room.log()], [[], []])
        self.assertRaises(Nothing, room.undo)


if __name__ == "__main__":
    unittest.main()

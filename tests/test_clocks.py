"""[22], [10], and [2], [3], [4] of clocks."""

import unittest
from itertools import product

from hourneeds.clocks import Clock
from hourneeds.errors import NoHour, Overtaken, Wrong
from helpers import GREAT, TURNS, Case, falling_clock, nested, odd_values, overtaken, rows, serving_of, small_clocks


class Made(Case):
    def test_all_small_rows(self):
        for hours in range(1, 6):
            for row in rows(hours):
                wrong = overtaken(row)
                for thing in (row, list(row)):
                    if wrong:
                        self.raises(Overtaken, lambda: Clock(thing), hour=wrong[0])
                    else:
                        self.assertEqual(Clock(thing).stays(), list(row))

    def test_each_number_of_hours(self):
        for hours in range(1, 49):
            for stays in ([1] * hours, [hours] * hours, list(range(hours, 0, -1))):
                for thing in (stays, tuple(stays)):
                    self.assertEqual(Clock(thing).stays(), stays)

    def test_numbers_of_hours_that_are_wrong(self):
        for many in (0, 49, 50, 20000):
            for thing in ([1] * many, (1,) * many):
                self.raises(Wrong, lambda: Clock(thing), place=0)

    def test_stays_that_are_out_of_bounds(self):
        for hours in (1, 2, 3, 24, 48):
            for place in {0, hours // 2, hours - 1}:
                for stay in (0, -1, hours + 1, 49, 50, 10 ** 40, -(10 ** 40)):
                    stays = [hours] * hours
                    stays[place] = stay
                    self.raises(Wrong, lambda: Clock(stays), place=0)
                    self.raises(Wrong, lambda: Clock(tuple(stays)), place=0)

    def test_stays_that_are_no_integers(self):
        for place in range(3):
            for value in odd_values():
                stays = [2, 2, 2]
                stays[place] = value
                self.raises(Wrong, lambda: Clock(stays), place=0)

    def test_values_that_are_no_rows(self):
        wrong = [0, 1, GREAT, {0: 1}, {1: 1}, "1", b"\x01", {1}, range(1, 2), iter([1]), Clock([1])]
        for value in wrong + odd_values():
            self.raises(Wrong, lambda: Clock(value), place=0)

    def test_wrong_comes_ahead_of_overtaken(self):
        for stays in ([3, 1, 0], [3, 1, 4], [3, 1, True], [3, 1, None], [0, 3, 1], (3, 1, "1"), [49] + [1] * 48):
            self.raises(Wrong, lambda: Clock(stays), place=0)

    def test_overtaken_tells_the_least_hour(self):
        for stays, hour in [([3, 1, 1], 0), ([1, 3, 1], 1), ([1, 1, 3], 2), ([3, 1, 3, 1], 0), ([1, 4, 2, 4], 1)]:
            self.raises(Overtaken, lambda: Clock(stays), hour=hour)
        self.raises(Overtaken, lambda: Clock([1] * 47 + [3]), hour=47)
        self.raises(Overtaken, lambda: Clock([48] + [1] * 47), hour=0)

    def test_behind_the_last_hour_comes_hour_0(self):
        self.assertEqual(Clock([1, 1, 2]).stays(), [1, 1, 2])
        self.assertEqual(Clock([1, 2, 3, 2]).stays(), [1, 2, 3, 2])
        self.raises(Overtaken, lambda: Clock([1, 2, 3, 3]), hour=3)


class Copied(Case):
    def test_the_row_may_be_changed_behind(self):
        stays = [3, 2, 1]
        clock = Clock(stays)
        stays[0] = 1
        stays.append(9)
        self.assertEqual(clock.stays(), [3, 2, 1])
        self.assertEqual([len(clock), clock[0]], [3, 3])
        self.assertEqual(clock, Clock([3, 2, 1]))

    def test_the_row_is_not_changed(self):
        stays = [3, 2, 1]
        clock = Clock(stays)
        clock.turned(1)
        clock.mirrored()
        clock.with_stay(2, 2)
        self.assertEqual(stays, [3, 2, 1])

    def test_lists_that_are_told_may_be_changed(self):
        clock = Clock([3, 2, 1])
        asks = [clock.stays, clock.widths, lambda: clock.served(0), lambda: clock.serving(2), lambda: list(clock)]
        for ask in asks:
            before = ask()
            told = ask()
            self.assertIs(told.__class__, list)
            told[0] = 99
            told.append(7)
            del told[1]
            self.assertEqual(ask(), before)
        self.assertEqual([one for one in clock], [3, 2, 1])
        self.assertEqual([clock.widths(), clock.served(0), clock.serving(2)], [[1, 2, 3], [0, 1, 2], [0, 1, 2]])


class Asked(Case):
    def check(self, stays):
        clock, hours = Clock(stays), len(stays)
        self.assertEqual([clock.hours, len(clock)], [hours, hours])
        self.assertEqual([clock.stays(), list(clock), [*clock]], [stays, stays, stays])
        self.assertEqual([clock[hour] for hour in range(hours)], stays)
        for hour in range(hours):
            self.assertEqual(clock.served(hour), [(hour + later) % hours for later in range(stays[hour])])
            self.assertEqual(clock.serving(hour), serving_of(stays, hour))
        self.assertEqual(clock.widths(), [len(serving_of(stays, hour)) for hour in range(hours)])

    def test_all_small_clocks(self):
        for stays in small_clocks():
            self.check(stays)

    def test_great_clocks(self):
        for hours in (24, 47, 48):
            for stays in ([1] * hours, [hours] * hours, [hours // 2] * hours, falling_clock(hours).stays()):
                self.check(stays)
            self.check([min(hour % 5 + 3, hours) for hour in range(hours)][::-1])

    def test_the_window_goes_on_as_hours_in_a_row(self):
        for stays in small_clocks():
            clock = Clock(stays)
            for hour in range(len(stays)):
                window = clock.serving(hour)
                self.assertEqual(window[-1], hour)
                self.assertTrue(1 <= len(window) <= len(stays))
                for one, other in zip(window, window[1:]):
                    self.assertEqual((one + 1) % len(stays), other)

    def test_round_about(self):
        clock = Clock.even(24, 4)
        self.assertEqual(clock.served(22), [22, 23, 0, 1])
        self.assertEqual(clock.serving(1), [22, 23, 0, 1])
        self.assertEqual(Clock([3, 3, 3]).served(1), [1, 2, 0])
        self.assertEqual(Clock([3, 3, 3]).serving(1), [2, 0, 1])

    def test_no_hour(self):
        for hours in (1, 3, 24, 48):
            clock = Clock.even(hours, hours)
            for hour in [hours, hours + 1, -1, -hours, 10 ** 40, -GREAT, *odd_values()]:
                self.raises(NoHour, lambda: clock[hour], hour=hour)
                self.raises(NoHour, lambda: clock.served(hour), hour=hour)
                self.raises(NoHour, lambda: clock.serving(hour), hour=hour)

    def test_the_number_of_hours_cannot_be_assigned(self):
        clock = Clock([1, 1])
        with self.assertRaises(AttributeError):
            clock.hours = 3
        self.assertEqual(clock.hours, 2)

    def test_what_the_interface_lists_is_defined_in_the_class(self):
        names = ["__init__", "__eq__", "__len__", "__iter__", "__getitem__", "hours", "stays", "widths", "served",
                 "serving", "with_stay", "turned", "mirrored", "even"]
        self.assertEqual([name for name in names if name not in vars(Clock)], [])
        self.assertEqual(Clock.__module__, "hourneeds.clocks")
        self.assertIsInstance(vars(Clock)["hours"], property)
        self.assertIsInstance(vars(Clock)["even"], staticmethod)


class WithStay(Case):
    def test_all_small_clocks(self):
        for before in small_clocks():
            clock, hours = Clock(before), len(before)
            for hour, stay in product(range(hours), range(1, hours + 1)):
                stays = list(before)
                stays[hour] = stay
                wrong = overtaken(stays)
                if wrong:
                    self.raises(Overtaken, lambda: clock.with_stay(hour, stay), hour=wrong[0])
                else:
                    other = clock.with_stay(hour, stay)
                    self.assertIs(other.__class__, Clock)
                    self.assertEqual(other.stays(), stays)
                self.assertEqual(clock.stays(), before)

    def test_no_hour_comes_first(self):
        clock = Clock([3, 3, 3])
        for hour in [3, -1, GREAT, *odd_values()]:
            for stay in (2, 1, 0, 4, None, True, "1", nested(60, list)):
                self.raises(NoHour, lambda: clock.with_stay(hour, stay), hour=hour)
        self.assertEqual(clock.stays(), [3, 3, 3])

    def test_then_wrong_1(self):
        clock = Clock([3, 3, 3])
        for hour in range(3):
            for stay in [0, 4, 48, 49, -1, GREAT, -GREAT, *odd_values()]:
                self.raises(Wrong, lambda: clock.with_stay(hour, stay), place=1)
        self.assertEqual(clock.stays(), [3, 3, 3])
        self.raises(Wrong, lambda: Clock([1]).with_stay(0, 2), place=1)

    def test_then_overtaken_perhaps_the_hour_ahead(self):
        clock = Clock([3, 3, 3])
        self.raises(Overtaken, lambda: clock.with_stay(1, 1), hour=0)
        self.raises(Overtaken, lambda: clock.with_stay(0, 1), hour=2)
        self.raises(Overtaken, lambda: Clock([1, 1, 1]).with_stay(2, 3), hour=2)
        self.assertEqual(clock.stays(), [3, 3, 3])

    def test_a_new_stay_tells_other_widths(self):
        clock = Clock([2, 2, 2])
        other = clock.with_stay(1, 3)
        self.assertEqual([other.stays(), other.widths()], [[2, 3, 2], [3, 2, 2]])
        self.assertEqual([clock.stays(), clock.widths()], [[2, 2, 2], [2, 2, 2]])
        self.assertEqual(clock.with_stay(1, 2), clock)


class Turned(Case):
    def test_by_integers_of_either_sign(self):
        for stays in small_clocks():
            clock, hours = Clock(stays), len(stays)
            for by in TURNS:
                turned = clock.turned(by)
                self.assertIs(turned.__class__, Clock)
                self.assertEqual(turned.stays(), [stays[(hour + by) % hours] for hour in range(hours)])
            self.assertEqual(clock.stays(), stays)

    def test_the_turned_clock_has_the_same_numbers(self):
        for stays in small_clocks():
            clock, hours = Clock(stays), len(stays)
            for by in (1, 2, -1, GREAT):
                turned = clock.turned(by)
                for hour in range(hours):
                    there = (hour + by) % hours
                    self.assertEqual(turned.widths()[hour], clock.widths()[there])
                    self.assertEqual([(at + by) % hours for at in turned.served(hour)], clock.served(there))
                    self.assertEqual([(at + by) % hours for at in turned.serving(hour)], clock.serving(there))

    def test_a_great_clock(self):
        clock = falling_clock(48)
        self.assertEqual(clock.turned(47).stays(), [1, *range(48, 1, -1)])
        self.assertEqual(clock.turned(-1), clock.turned(47))
        self.assertEqual(clock.turned(48), clock)
        self.assertEqual(clock.turned(48 * 10 ** 38 + 5), clock.turned(5))


class Mirrored(Case):
    def test_all_small_clocks(self):
        for stays in small_clocks():
            clock, last = Clock(stays), len(stays) - 1
            mirrored = clock.mirrored()
            self.assertIs(mirrored.__class__, Clock)
            for hour in range(last + 1):
                self.assertEqual(mirrored[hour], clock.widths()[last - hour])
                self.assertEqual(mirrored.widths()[hour], stays[last - hour])
                window = clock.serving(last - hour)
                self.assertEqual(mirrored.served(hour), [last - at for at in window][::-1])
            self.assertEqual(mirrored.mirrored(), clock)
            self.assertEqual(clock.stays(), stays)

    def test_great_clocks(self):
        for clock in (falling_clock(48), falling_clock(47).turned(11), Clock.even(48, 5), falling_clock(24).turned(-7)):
            self.assertEqual(clock.mirrored().stays(), clock.widths()[::-1])
            self.assertEqual(clock.mirrored().widths(), clock.stays()[::-1])
            self.assertEqual(clock.mirrored().mirrored(), clock)


class Even(Case):
    def test_all_stay_so_long(self):
        for hours in range(1, 49):
            for stay in range(1, hours + 1):
                clock = Clock.even(hours, stay)
                self.assertIs(clock.__class__, Clock)
                self.assertEqual(clock.stays(), [stay] * hours)
                self.assertEqual(clock.widths(), [stay] * hours)

    def test_an_object_knows_it_too(self):
        self.assertEqual(Clock([1]).even(3, 2), Clock([2, 2, 2]))

    def test_wrong_hours(self):
        for hours in [0, 49, -1, GREAT, -GREAT, *odd_values()]:
            for stay in (1, 0, 49, None, True, "1"):
                self.raises(Wrong, lambda: Clock.even(hours, stay), place=0)

    def test_wrong_stays(self):
        for hours in (1, 2, 24, 48):
            for stay in [0, -1, hours + 1, 49, GREAT, -GREAT, *odd_values()]:
                self.raises(Wrong, lambda: Clock.even(hours, stay), place=1)


class Equal(Case):
    def test_clocks_with_equal_and_unlike_stays(self):
        told = [stays for stays in small_clocks() if len(stays) <= 4]
        for one, other in product(told, told):
            self.assertIs(Clock(one) == Clock(tuple(other)), one == other)
            self.assertIs(Clock(one) != Clock(tuple(other)), one != other)

    def test_a_clock_is_equal_to_nothing_else(self):
        for clock in (Clock([1]), Clock([2, 1])):
            for value in [1, 0, [1], (1,), [2, 1], (2, 1), "1", *[v for v in odd_values() if v.__class__ != Clock]]:
                self.assertIs(clock == value, False)
                self.assertIs(value == clock, False)
                self.assertIs(clock != value, True)

    def test_equal_however_it_was_made(self):
        clock = Clock([2, 1, 2, 3])
        self.assertIs(clock == clock, True)
        self.assertIs(clock == clock.turned(3).turned(1), True)
        self.assertIs(clock == Clock([2, 1, 2, 2]).with_stay(3, 3), True)
        self.assertIs(clock == clock.turned(1), False)


if __name__ == "__main__":
    unittest.main()

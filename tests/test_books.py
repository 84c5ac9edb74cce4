"""[97], and [3], [4] of books of limits that are changed deed by deed."""

import unittest
from random import Random

from hourneeds.books import Book
from hourneeds.changes import more_for, stay_gain
from hourneeds.clocks import Clock
from hourneeds.errors import Full, NeedError, NoDeed, NoEntry, NoStep, Nothing, Refused, Stuck, Wrong
from hourneeds.houses import House
from hourneeds.needs import Needs
from hourneeds.people import least_people
from hourneeds.plans import Plan
from hourneeds.sums import earliest
from helpers import GREAT, no_hours, odd_values, overtaken
from house_helpers import FORTY, HouseCase, even_limits, great_limits, limits_of, made, plans_of, reached_by, small_limits

HOUSE = even_limits(3, 2, 1)
PACKED = even_limits(3, 2, 1, room=1)
ROW_OF = {"stay": 0, "need": 1, "room": 2, "keep": 3, "door": 4}
# Beyond the least numbers of people of the small houses below.
MOST = 13


def limits_behind(limits, deed):
    """The limits behind a deed, or None if no clock would come, or no plan is left."""
    word, hour, number = deed
    changed = tuple(list(row) for row in limits)
    changed[ROW_OF[word]][hour] = number
    if overtaken(changed[0]) or not any(plans_of(changed, people) for people in range(MOST)):
        return None
    return changed


def undone_in(book):
    """The deeds that can be done again, the first one first, asked of a copy."""
    copy, found = book.copied(), []
    while True:
        try:
            found.append(copy.again())
        except Nothing:
            return found


def state(book):
    """All that can be told of a Book."""
    return limits_of(book.house), limits_of(book.first), book.log(), len(book), undone_in(book)


def drawn_deed(source, hours):
    """A deed of a house of so many hours, with small numbers."""
    word = source.choice(["need", "room", "keep", "door", "stay"])
    numbers = {"room": [None, 0, 1, 2, 3, 4], "door": [None, 0, 1, 2, 3], "keep": [0, 0, 1, 2]}.get(word, [0, 1, 2, 3])
    number = source.randint(1, hours) if word == "stay" else source.choice(numbers)
    return word, source.randrange(hours), number


def no_deeds(hours):
    """Values that are no deed of a house of so many hours."""
    wrong = [("need", 0), ("need", 0, 1, 1), ["need", 0, 1], ("need", [0], 1), (["need"], 0, 1), ((("need", 0), 1),),
             ("need", 0, None), ("keep", 0, None), ("stay", 0, None), ("stay", 0, 0), ("stay", 0, hours + 1),
             ("stay", 0, -1), ("stay", 0, GREAT), ("Need", 0, 1), ("needs", 0, 1), ("", 0, 1), ("rooms", 0, 1),
             (0, "need", 1), ("need", "0", 1), ("need", 0, "1"), ("need", 0, [1]), ("need", 0, (1,)), "need 0 1",
             {"need": (0, 1)}, ("need", True, 1), ("need", False, 1), ("stay", 0, True), ("need", 0, False)]
    for word in ("need", "room", "keep", "door", "stay"):
        wrong += [(word, hour, 1) for hour in no_hours(hours)]
        wrong += [(word, 0, number) for number in [-1, -GREAT, *odd_values()]
                  if number is not None or word not in ("room", "door")]
    return wrong + [(word, 0, 1) for word in odd_values()] + odd_values()


class Led(HouseCase):
    def test_led_at_random_against_a_search_through_all_plans(self):
        source, seen = Random(200), set()
        for limits in small_limits(201, 60, 3):
            if not any(plans_of(limits, people) for people in range(MOST)):
                self.stuck(Stuck, limits, lambda: Book(made(limits)))
                continue
            book, told, undone = Book(made(limits)), [(None, limits)], []
            for _ in range(25):
                seen.add(self.step(source, book, told, undone))
                self.assertEqual(state(book), (told[-1][1], limits, [deed for deed, _ in told[1:]], len(told) - 1,
                                               [deed for deed, _ in undone[::-1]]))
        self.assertEqual(seen, {"done", "refused", "back", "again", "no back", "no again"})

    def step(self, source, book, told, undone):
        """Leads a Book and the limits told beside it by one step, and returns which it was."""
        kind = source.choice(["do", "do", "do", "set", "set", "back", "back", "again", "again"])
        if kind == "back":
            if len(told) == 1:
                self.raises(Nothing, book.back)
                return "no back"
            self.assertEqual(book.back(), told[-1][0])
            undone.append(told.pop())
            return "back"
        if kind == "again":
            if not undone:
                self.raises(Nothing, book.again)
                return "no again"
            self.assertEqual(book.again(), undone[-1][0])
            told.append(undone.pop())
            return "again"
        deed = drawn_deed(source, len(told[0][1][0]))
        after = limits_behind(told[-1][1], deed)
        if after is None:
            self.refused(book, kind, deed)
            return "refused"
        if kind == "do":
            self.assertIs(book.do(deed), None)
        else:
            book[deed[0], deed[1]] = deed[2]
        told.append((deed, after))
        undone.clear()
        return "done"

    def refused(self, book, kind, deed):
        if kind == "do":
            self.raises(Refused, lambda: book.do(deed), deed=deed)
            return
        raised = self.raised(Refused, lambda: book.__setitem__(deed[:2], deed[2]))
        self.assertEqual(vars(raised), {"deed": deed})

    def test_great_houses(self):
        source = Random(202)
        for limits in great_limits(203, 6):
            book = None
            try:
                book = Book(made(limits))
            except Stuck as error:
                self.shows_stuck(limits, error.ways)
                continue
            for _ in range(12):
                word, hour = source.choice([*ROW_OF]), source.randrange(len(limits[0]))
                number = source.choice([0, 3, 10 ** 28, 10 ** 30, FORTY])
                if word == "stay":
                    number = source.randint(1, len(limits[0]))
                before = book.house
                try:
                    book.do((word, hour, number))
                except Refused:
                    self.assertEqual(book.house, before)
                self.assertIs(book.house.allows(book.plan()), True)
                self.assertEqual(book.plan().people, book.needed())


class MadeOf(HouseCase):
    def test_wrong_0_then_stuck_with_ways_that_show_it(self):
        for value in [0, Clock([1]), Needs([1]), Plan([1]), HOUSE, Book(made(HOUSE)), *odd_values()]:
            if not isinstance(value, House):
                self.raises(Wrong, lambda: Book(value), place=0)
        for limits in (PACKED, even_limits(3, 2, 2, room=1), even_limits(1, 1, 2, room=1), even_limits(24, 23, 1, room=1),
                       even_limits(2, 1, 0, keep=2, door=1)):
            self.stuck(Stuck, limits, lambda: Book(made(limits)))
            self.may_be_changed(lambda: self.raised(Stuck, lambda: Book(made(limits))).ways)

    def test_what_is_told_at_the_beginning(self):
        for limits in (HOUSE, even_limits(24, 8, 10 ** 30, room=10 ** 31)):
            book = Book(made(limits))
            self.assertEqual(state(book), (limits, limits, [], 0, []))
            self.assertEqual([book.house, book.first], [made(limits)] * 2)
            self.raises(Nothing, book.back)
            self.raises(Nothing, book.again)

    def test_the_interface(self):
        names = ["__init__", "__len__", "__getitem__", "__setitem__", "__eq__", "do", "log", "back", "again", "past",
                 "copied", "trial", "needed", "plan"]
        self.defines(Book, names, properties=("house", "first"))
        self.assertEqual([Book.MOST, Book(made(HOUSE)).MOST], [200, 200])
        book = Book(made(HOUSE))
        for name in ("house", "first"):
            with self.assertRaises(AttributeError):
                setattr(book, name, made(HOUSE))

    def test_it_is_not_iterated_over(self):
        book = Book(made(HOUSE))
        book.do(("need", 0, 2))
        with self.assertRaises(TypeError):
            list(book)


class Deeds(HouseCase):
    def test_each_word(self):
        book = Book(made(HOUSE))
        for deed, row in [(("need", 0, 2), ROW_OF["need"]), (("room", 1, 9), ROW_OF["room"]),
                          (("keep", 2, 3), ROW_OF["keep"]), (("door", 0, 5), ROW_OF["door"]),
                          (("stay", 1, 3), ROW_OF["stay"]), (("room", 1, None), ROW_OF["room"]),
                          (("door", 0, None), ROW_OF["door"]), (("keep", 2, 0), ROW_OF["keep"])]:
            expected = [list(told) for told in limits_of(book.house)]
            expected[row][deed[1]] = deed[2]
            self.assertIs(book.do(deed), None)
            self.assertEqual([list(told) for told in limits_of(book.house)], expected)
            self.assertEqual(book.log()[-1], deed)
            self.assertEqual(limits_of(book.first), HOUSE)

    def test_a_deed_that_changes_nothing_is_one_like_any_other(self):
        book, house = Book(made(HOUSE)), made(HOUSE)
        deeds = [("need", 0, 1), ("room", 0, None), ("keep", 1, 0), ("door", 2, None), ("stay", 1, 2)]
        for deed in deeds:
            book.do(deed)
            self.assertEqual(book.house, house)
        self.assertEqual([book.log(), len(book)], [deeds, 5])
        self.assertEqual([book.back() for _ in range(5)], deeds[::-1])

    def test_no_deed(self):
        for limits in (HOUSE, even_limits(1, 1, 1), even_limits(24, 8, 2)):
            book = Book(made(limits))
            book.do(("need", 0, 2))
            book.do(("need", 0, 3))
            book.back()
            before = state(book)
            for thing in no_deeds(len(limits[0])):
                self.raises(NoDeed, lambda: book.do(thing))
            self.assertEqual(state(book), before)

    def test_refused_where_no_clock_would_come(self):
        for limits, deed in [(([1, 2, 1], [0] * 3, [None] * 3, [0] * 3, [None] * 3), ("stay", 2, 3)),
                             (even_limits(3, 3, 1), ("stay", 0, 1)), (even_limits(24, 8, 1), ("stay", 23, 10)),
                             (even_limits(24, 8, 1), ("stay", 0, 6)), (even_limits(3, 1, 1), ("stay", 1, 3))]:
            book = Book(made(limits))
            before = state(book)
            self.raises(Refused, lambda: book.do(deed), deed=deed)
            self.assertEqual(state(book), before)
        # The one ahead is overtaken just if the stay is two shorter.
        book = Book(made(even_limits(24, 8, 1)))
        book.do(("stay", 0, 7))
        book.do(("stay", 23, 8))
        self.raised(Refused, lambda: book.do(("stay", 23, 9)))

    def test_refused_where_no_plan_is_left(self):
        for limits, deed in [(HOUSE, ("room", 0, 0)), (even_limits(1, 1, 1), ("room", 0, 0)),
                             (even_limits(3, 2, 1, room=2), ("need", 1, 3)), (even_limits(2, 1, 0, door=1), ("keep", 1, 2)),
                             (([1, 1], [1, 1], [1, 1], [1, 1], [None] * 2), ("stay", 0, 2)),
                             (even_limits(24, 5, 10 ** 30, room=2 * 10 ** 30), ("room", 7, 10 ** 30 - 1))]:
            book = Book(made(limits))
            before = state(book)
            self.raises(Refused, lambda: book.do(deed), deed=deed)
            raised = self.raised(Refused, lambda: book.__setitem__(deed[:2], deed[2]))
            self.assertEqual([raised.deed, raised.deed.__class__], [deed, tuple])
            self.assertEqual(state(book), before)

    def test_no_deed_then_full_then_refused(self):
        book = Book(made(HOUSE))
        for at in range(200):
            book.do(("need", at % 3, 1 + at % 2))
        self.assertEqual(len(book), 200)
        before = state(book)
        for thing in [("need", 3, 1), ("stay", 0, 0), None, ("room", 0, -1), ("need", 0)]:
            self.raises(NoDeed, lambda: book.do(thing))
        for deed in [("need", 0, 1), ("room", 0, 0), ("stay", 0, 3), ("door", 0, None)]:
            for act in (lambda: book.do(deed), lambda: book.__setitem__(deed[:2], deed[2])):
                self.assertEqual(vars(self.raised(Full, act)), {"limit": 200})
        self.raises(NoDeed, lambda: book.__setitem__((), 1))
        self.assertEqual(state(book), before)
        book.back()
        self.raised(Refused, lambda: book.do(("room", 0, 0)))
        self.assertEqual([book.again(), len(book)], [("need", 1, 2), 200])
        book.back()
        book.do(("need", 0, 5))
        self.assertEqual([len(book), book.house.needs[0]], [200, 5])
        self.raised(Full, lambda: book.do(("need", 0, 5)))

    def test_the_deed_of_refused_is_the_very_one(self):
        book = Book(made(HOUSE))
        deed = ("room", 1, 0)
        self.assertIs(self.raised(Refused, lambda: book.do(deed)).deed, deed)


class Brackets(HouseCase):
    def test_what_is_set_and_asked(self):
        book = Book(made(([2, 2, 2], [1, 2, 3], [None, 7, 8], [0, 1, 0], [9, None, 6])))
        asked = {"need": [1, 2, 3], "room": [None, 7, 8], "keep": [0, 1, 0], "door": [9, None, 6], "stay": [2, 2, 2]}
        for word, row in asked.items():
            for hour in range(3):
                self.assertEqual(book[word, hour], row[hour])
                self.assertEqual(book[(word, hour)], row[hour])
        book["need", 0] = 4
        book["room", 0] = 10
        book["room", 1] = None
        book["keep", 2] = 1
        book["door", 2] = 5
        book["stay", 0] = 3
        self.assertEqual([book["need", 0], book["room", 0], book["room", 1], book["keep", 2], book["door", 2],
                          book["stay", 0]], [4, 10, None, 1, 5, 3])
        self.assertEqual(book.log(), [("need", 0, 4), ("room", 0, 10), ("room", 1, None), ("keep", 2, 1), ("door", 2, 5),
                                      ("stay", 0, 3)])
        book.back()
        self.assertEqual(book["stay", 0], 2)

    def test_no_step_with_the_very_value(self):
        book = Book(made(HOUSE))
        values = ["need", "need 0", 0, ("need",), ("need", 0, 1), ["need", 0], ("Need", 0), ("", 0), ("rooms", 0), (0, "need"),
                  ("need", (0,)), (("need", 0),), ("need", "0"), ("need", True), ("stay", False), slice(0, 1), *odd_values()]
        for word in ("need", "room", "keep", "door", "stay"):
            values += [(word, hour) for hour in no_hours(3)]
        values += [(word, 0) for word in odd_values()]
        before = state(book)
        for value in values:
            self.raises(NoStep, lambda: book[value], step=value)
        self.assertEqual(state(book), before)

    def test_no_deed_for_what_is_no_tuple_of_two(self):
        book = Book(made(HOUSE))
        before = state(book)
        values = ["need", 0, ("need",), ("need", 0, 1), ["need", 0], (), (("need", 0),), ("need", 3), ("Need", 0),
                  ("need", True), ("need", -1), *odd_values()]
        for value in values:
            for number in (1, 2, None):
                self.raises(NoDeed, lambda: book.__setitem__(value, number))
        for thing in no_deeds(3):
            if isinstance(thing, tuple) and len(thing) == 3:
                self.raises(NoDeed, lambda: book.__setitem__(thing[:2], thing[2]))
        self.assertEqual(state(book), before)


class BackAndAgain(HouseCase):
    def test_one_by_one(self):
        book, deeds, houses = Book(made(HOUSE)), [], [made(HOUSE)]
        for at in range(12):
            deeds.append(("need", at % 3, at))
            book.do(deeds[-1])
            houses.append(book.house)
        for _ in range(2):
            for at in range(11, -1, -1):
                self.assertEqual([book.back(), book.house, len(book)], [deeds[at], houses[at], at])
            self.raises(Nothing, book.back)
            for at in range(12):
                self.assertEqual([book.again(), book.house, len(book)], [deeds[at], houses[at + 1], at + 1])
            self.raises(Nothing, book.again)
        self.assertEqual(book.log(), deeds)

    def test_nothing_to_do_again_behind_a_new_deed(self):
        book = Book(made(HOUSE))
        for number in (2, 3, 4):
            book.do(("need", 0, number))
        book.back()
        book.back()
        # What is refused, or no deed, changes nothing here either.
        self.raised(Refused, lambda: book.do(("room", 0, 0)))
        self.raised(NoDeed, lambda: book.do(None))
        self.assertEqual(book.again(), ("need", 0, 3))
        book.back()
        book.do(("need", 0, 3))
        self.raises(Nothing, book.again)
        self.assertEqual([book.log(), book["need", 0]], [[("need", 0, 2), ("need", 0, 3)], 3])
        book.back()
        book["need", 1] = 1
        self.raises(Nothing, book.again)

    def test_log_is_a_new_list(self):
        book = Book(made(HOUSE))
        self.assertEqual(book.log(), [])
        book.log().append(("need", 0, 2))
        self.assertEqual([book.log(), len(book)], [[], 0])
        book.do(("need", 0, 2))
        self.may_be_changed(book.log)
        self.assertEqual(book.log()[0].__class__, tuple)


class Past(HouseCase):
    def led(self):
        book = Book(made(HOUSE))
        for deed in [("need", 0, 2), ("room", 1, 9), ("stay", 2, 3), ("keep", 1, 1), ("door", 0, 4), ("need", 2, 0)]:
            book.do(deed)
        book.back()
        return book

    def test_each_number(self):
        book = self.led()
        before = state(book)
        for many in range(6):
            past = book.past(many)
            self.assertEqual([past.__class__, past.first, past.log()], [Book, book.first, book.log()[:many]])
            self.assertEqual(undone_in(past), [])
            other = Book(made(HOUSE))
            for deed in book.log()[:many]:
                other.do(deed)
            self.assertEqual([past, past.house], [other, other.house])
        self.assertEqual(state(book), before)

    def test_no_entry_with_the_very_value(self):
        book = self.led()
        for many in [6, 7, -1, GREAT, -GREAT, "3", (3,), [3], *odd_values()]:
            self.raises(NoEntry, lambda: book.past(many), many=many)
        empty = Book(made(HOUSE))
        self.assertEqual(empty.past(0), empty)
        self.raises(NoEntry, lambda: empty.past(1), many=1)

    def test_each_goes_on_by_itself(self):
        for make in (lambda book: book.past(3), lambda book: book.copied()):
            book = self.led()
            before, other = state(book), make(book)
            told = state(other)
            other.do(("need", 1, 7))
            other.back()
            other.back()
            other["need", 1] = 8
            self.assertEqual(state(book), before)
            fresh = make(book)
            self.assertEqual(state(fresh), told)
            book.back()
            book.do(("need", 1, 5))
            self.assertEqual(state(fresh), told)

    def test_copied_is_equal_also_in_what_can_be_undone_and_done_again(self):
        book = self.led()
        book.back()
        copy = book.copied()
        self.assertEqual([copy, copy.__class__, state(copy)], [book, Book, state(book)])
        self.assertIsNot(copy, book)
        self.assertEqual([copy.again(), copy.again()], [("door", 0, 4), ("need", 2, 0)])
        self.assertEqual([book.again(), book.again()], [("door", 0, 4), ("need", 2, 0)])
        self.assertEqual([copy.back() for _ in range(6)], [book.back() for _ in range(6)])


class Trial(HouseCase):
    def led(self):
        book = Book(made(HOUSE))
        for number in (2, 3, 4):
            book.do(("need", 0, number))
        book.back()
        return book

    def acts(self):
        """Acts that change a Book, each called with it."""
        def go_back(book):
            book.back()
            book.back()

        def lead(book):
            book.again()
            book["room", 0] = 99
            book.back()
            book.do(("keep", 2, 1))

        def fill(book):
            while len(book) < Book.MOST:
                book.do(("need", 1, len(book)))

        return [go_back, lead, fill, lambda book: book.do(("stay", 0, 1)), lambda book: book.again(), lambda book: None]

    def test_what_act_returns_the_very_object(self):
        for thing in [[], {}, None, Book(made(HOUSE)), made(HOUSE), "x" * 99, *odd_values()]:
            book, seen = self.led(), []

            def act(given):
                seen.append(given)
                return thing

            self.assertIs(book.trial(act), thing)
            self.assertEqual(len(seen), 1)
            self.assertIs(seen[0], book)
        book = self.led()
        self.assertIs(book.trial(lambda given: given), book)

    def test_behind_it_the_book_is_as_before(self):
        for act in self.acts():
            book = self.led()
            before = state(book)
            book.trial(act)
            self.assertEqual(state(book), before)
            self.assertEqual([book.again(), book.back(), book.back()], [("need", 0, 4), ("need", 0, 4), ("need", 0, 3)])

    def test_its_error_passes_and_the_book_is_as_before(self):
        errors = [NeedError("x"), Nothing(), KeyError("y"), ZeroDivisionError(), KeyboardInterrupt()]
        for error in errors:
            for act in self.acts():
                book = self.led()
                before = state(book)

                def failing(given):
                    act(given)
                    raise error

                with self.assertRaises(error.__class__) as context:
                    book.trial(failing)
                self.assertIs(context.exception, error)
                self.assertEqual(state(book), before)
        book = self.led()
        before = state(book)
        self.raised(Refused, lambda: book.trial(lambda given: (given.do(("need", 0, 9)), given.do(("room", 0, 0)))))
        self.assertEqual(state(book), before)

    def test_within_it_the_book_is_led(self):
        book = self.led()

        def act(given):
            given.do(("need", 1, 8))
            return given.log(), given.needed(), limits_of(given.house)[1]

        self.assertEqual(book.trial(act), ([("need", 0, 2), ("need", 0, 3), ("need", 1, 8)], 8, [3, 8, 1]))
        self.assertEqual(book.log(), [("need", 0, 2), ("need", 0, 3)])

    def test_trials_within_trials(self):
        book, seen = self.led(), []

        def inner(given):
            given.back()
            given.do(("need", 2, 6))
            seen.append(state(given))
            raise NeedError("inner")

        def outer(given):
            given.do(("door", 1, 9))
            middle = state(given)
            with self.assertRaises(NeedError):
                given.trial(inner)
            self.assertEqual(state(given), middle)
            given.trial(lambda again: again.back())
            self.assertEqual(state(given), middle)
            return "outer"

        before = state(book)
        self.assertEqual(book.trial(outer), "outer")
        self.assertEqual(state(book), before)
        self.assertEqual(seen[0][2], [("need", 0, 2), ("need", 0, 3), ("need", 2, 6)])

    def test_copies_made_within_stay(self):
        book = self.led()

        def act(given):
            given.do(("need", 1, 5))
            return given.copied()

        copy = book.trial(act)
        self.assertEqual([copy["need", 1], book["need", 1], len(copy), len(book)], [5, 1, 3, 2])


class NeededAndPlan(HouseCase):
    def test_of_the_house_as_it_is_now(self):
        source = Random(204)
        for limits in small_limits(205, 30, 3):
            if not any(plans_of(limits, people) for people in range(MOST)):
                continue
            book = Book(made(limits))
            for _ in range(6):
                try:
                    book.do(drawn_deed(source, book.house.hours))
                except Refused:
                    continue
                now = limits_of(book.house)
                needed = min(people for people in range(MOST) if plans_of(now, people))
                self.assertEqual([book.needed(), book.plan().__class__], [needed, Plan])
                plans = [Plan(begins) for begins in plans_of(now, needed)]
                self.assertIn(book.plan(), plans)
                self.assertTrue(all(plan.within(book.plan()) for plan in plans))
                self.assertEqual(book.plan(), earliest(book.house, least_people(book.house)))

    def test_what_more_for_and_stay_gain_foretell(self):
        source = Random(206)
        for limits in small_limits(207, 40, 3):
            if not any(plans_of(limits, people) for people in range(MOST)):
                continue
            book = Book(made(limits))
            for _ in range(10):
                deed = word, hour, number = drawn_deed(source, book.house.hours)
                if word == "stay":
                    number = min(book["stay", hour] + 1, book.house.hours)
                    gain = stay_gain(book.house, hour)
                    more = None if gain is None else -gain
                    if number == book["stay", hour]:
                        self.assertIs(more, None)
                        continue
                    deed = word, hour, number
                else:
                    more = more_for(book.house, word, hour, number)
                needed = book.needed()
                if more is None:
                    self.raised(Refused, lambda: book.do(deed))
                else:
                    book.do(deed)
                    self.assertEqual(book.needed(), needed + more)


class Equal(HouseCase):
    def test_by_first_houses_and_logs(self):
        def book(limits, deeds, undone=0):
            told = Book(made(limits))
            for deed in deeds:
                told.do(deed)
            for _ in range(undone):
                told.back()
            return told

        other = even_limits(3, 2, 1, room=9)
        one, two, three = ("need", 0, 2), ("need", 1, 2), ("need", 0, 1)
        told = [(HOUSE, []), (HOUSE, [one]), (HOUSE, [one, two]), (HOUSE, [two, one]), (HOUSE, [three]), (other, []),
                (other, [one])]
        for limits, deeds in told:
            for limits_too, deeds_too in told:
                same = (limits, deeds) == (limits_too, deeds_too)
                self.assertIs(book(limits, deeds) == book(limits_too, deeds_too), same)
                self.assertIs(book(limits, deeds) != book(limits_too, deeds_too), not same)
        # What can be done again does not count, nor do equal Houses that other deeds led to.
        self.assertIs(book(HOUSE, [one, two], 1) == book(HOUSE, [one]), True)
        self.assertIs(book(HOUSE, [one, two], 2) == book(HOUSE, [three], 1), True)
        self.assertEqual(book(HOUSE, [one, two]).house, book(HOUSE, [two, one]).house)

    def test_to_nothing_else(self):
        book = Book(made(HOUSE))
        for value in [made(HOUSE), [], [made(HOUSE), []], (made(HOUSE), []), 0, *odd_values()]:
            self.assertIs(book == value, False)
            self.assertIs(value == book, False)
            self.assertIs(book != value, True)


class Kept(HouseCase):
    def test_the_house_that_is_passed_stays(self):
        house = made(HOUSE)
        book = Book(house)
        book.do(("need", 0, 9))
        book.do(("stay", 0, 1))
        self.assertEqual([limits_of(house), limits_of(book.first)], [HOUSE, HOUSE])
        before = book.house
        book.do(("need", 0, 3))
        self.assertEqual(before.needs[0], 9)

    def test_asking_changes_nothing(self):
        book = Book(made(HOUSE))
        book.do(("need", 0, 9))
        book.back()
        before = state(book)
        for act in (book.needed, book.plan, book.log, book.copied, lambda: book.past(0), lambda: book["need", 0],
                    lambda: len(book), lambda: book.house, lambda: book.first):
            self.assertEqual(act(), act())
            self.assertEqual(state(book), before)

    def test_the_house_always_has_a_plan(self):
        source = Random(208)
        for limits in ([2, 1, 1, 2, 3], [1, 0, 2, 0, 1], [None] * 5, [0] * 5, [None] * 5), even_limits(4, 2, 1, room=2):
            book = Book(made(limits))
            for _ in range(60):
                try:
                    book.do(drawn_deed(source, len(limits[0])))
                except (Refused, NoDeed):
                    pass
                # Walks at the pace of the needed people reach a most at each mark.
                self.assertIsNot(reached_by(limits_of(book.house), book.needed()), None)


if __name__ == "__main__":
    unittest.main()

"""The examples of the document, as they stand, one behind another, and those of the README."""

import doctest
import unittest
from pathlib import Path

EXAMPLES = r"""
>>> from hourneeds.clocks import Clock
>>> falling = Clock([3, 2, 1])
>>> [falling.widths(), falling.served(1), falling.serving(2), falling[0], list(falling)]
[[1, 2, 3], [1, 2], [0, 1, 2], 3, [3, 2, 1]]
>>> [Clock.even(3, 2) == Clock([2, 2, 2]), falling.turned(1).stays(), falling.mirrored() == falling]
[True, [2, 1, 3], True]
>>> from hourneeds.needs import Needs
>>> from hourneeds.plans import Plan
>>> wants = Needs([2, 1, 2, 1])
>>> [(2 * wants).total, list(wants << 1), wants.within(Needs([2, 2, 2, 2])), (wants | Needs([0, 3, 0, 0]))[1]]
[12, [1, 2, 1, 2], True, 3]
>>> four, plan, other = Clock.even(4, 2), Plan([2, 0, 2, 0]), Plan([1, 1, 1, 1])
>>> [plan.there(four), plan.sums(), plan & other == other, other.within(plan), list(plan.later(0)), plan.is_enough(four, wants)]
[[2, 2, 2, 2], [0, 2, 2, 4, 4], True, True, [1, 1, 2, 0], True]
>>> from hourneeds.fewest import fewest
>>> from hourneeds.rings import bound, step_hours, winds
>>> [step_hours(four, 0, 2), step_hours(four, 0, 1), step_hours(falling, 0, 2), winds(four, [0, 2]), winds(four, [0, 1, 2, 3]), bound(four, wants, [0, 2]), fewest(four, wants)]
[2, 5, 5, 1, 5, 4, 4]
>>> three, ones = Clock.even(3, 2), Needs([1, 1, 1])
>>> [winds(three, [0, 2, 1]), bound(three, ones, [0, 2, 1]), fewest(three, ones)]
[2, 2, 2]
>>> from hourneeds.houses import House
>>> from hourneeds.people import are_stuck, is_possible, least_people, most_people
>>> from hourneeds.ways import bound_of, ring_way, steps, told, turns
>>> house, packed = House(three, ones), House(three, ones, rooms=[1, 1, 1])
>>> [steps(house)[2:4], told(house, ("need", 0)), least_people(house), most_people(house)]
[[('keep', 2), ('need', 0)], (2, 1, 2, 1), 2, None]
>>> needed, roomed = [("need", 0), ("need", 2), ("need", 1)], [("room", 2), ("room", 0), ("room", 1)]
>>> [turns(packed, needed), turns(packed, roomed), bound_of(packed, needed), bound_of(packed, roomed), are_stuck(packed, [needed, roomed])]
[2, -2, 2, 1, True]
>>> [ring_way(house, [0]), is_possible(house, 1), packed.allows(Plan([1, 0, 0])), packed.broken(Plan([1, 0, 0]))]
[[('keep', 1), ('need', 0)], False, False, [('need', 2)]]
>>> from hourneeds.spans import begin_range, is_only, span_range, there_range
>>> from hourneeds.sums import earliest, latest, sum_ranges
>>> [list(earliest(house, 2)), list(latest(house, 2)), sum_ranges(house, 2)]
[[1, 1, 0], [0, 1, 1], [(0, 0), (0, 1), (1, 2), (2, 2)]]
>>> [begin_range(house, 2, 0), there_range(house, 2, 1), span_range(house, 2, 2, 3), is_only(house, 2)]
[(0, 1), (1, 2), (2, 2), False]
>>> from hourneeds.changes import binding, free_need, more_for, stay_gain
>>> from hourneeds.listing import count_plans, plan_at, plans
>>> [count_plans(house, 2), list(plan_at(house, 2, 0)), [list(one) for one in plans(house, 2)][1:]]
[3, [0, 1, 1], [[1, 0, 1], [1, 1, 0]]]
>>> [more_for(house, "need", 0, 3), free_need(house, 0), binding(house), stay_gain(house, 0)]
[1, 2, [0, 1, 2], 1]
>>> from hourneeds.costs import cheap_people, cheap_plan, cost_of, least_cost
>>> from hourneeds.prices import are_prices, worth
>>> dues, prices = [1, 5, 1], ([0, 0, 0], [0, 0, 0], [0, 4, 0], [0, 0, 0], 1)
>>> [cost_of(Plan([1, 1, 0]), dues), least_cost(house, 2, dues), list(cheap_plan(house, 2, dues)), cheap_people(house, dues)]
[6, 2, [1, 0, 1], 2]
>>> [are_prices(house, dues, prices), worth(house, 2, prices)]
[True, 2]
>>> from hourneeds.days import days_people, fewest_days, in_days
>>> from hourneeds.endless import Endless
>>> from hourneeds.paces import least_pace, most_pace
>>> [least_pace(house), most_pace(house), most_pace(packed), days_people(house, 2), days_people(house, 10 ** 30 + 1)]
[(3, 2), None, (3, 2), (3, None), (1500000000000000000000000000002, None)]
>>> [fewest_days(packed), least_people(in_days(packed, 2))]
[2, 3]
>>> ever = Endless(packed, (3, 2))
>>> [[ever(hour) for hour in range(-3, 6)], ever.sum_to(-3), ever(10 ** 30), ever.period, list(ever.plan())]
[[0, 1, 0, 1, 0, 1, 0, 1, 0], -1, 1, 2, [1, 0, 1, 0, 1, 0]]
>>> from hourneeds.desk import Desk
>>> from hourneeds.notation import show_house, show_way
>>> [show_house(packed), show_way(needed)]
['clock 2 2 2\nneeds 1 1 1\nrooms 1 1 1\n', 'need 0, need 2, need 1']
>>> desk = Desk(house)
>>> [desk.execute(line) for line in ["people", "need 0 3", "people", "back", "plan", "there 1", "pace", "door 9 1"]]
['2 -', 'ok', '3 -', 'need 0 3', '1 1 0', '1 2', '3/2 -', 'refused']
"""


README = Path(__file__).parent.parent / "README.md"


class Examples(unittest.TestCase):
    def check(self, text):
        examples = doctest.DocTestParser().get_doctest(text, {}, "examples", None, 0)
        self.assertTrue(examples.examples)
        report = []
        doctest.DocTestRunner(verbose=False).run(examples, out=report.append)
        self.assertEqual("".join(report), "")

    def test_examples_of_the_document(self):
        self.check(EXAMPLES)

    def test_examples_of_the_readme(self):
        self.check(README.read_text(encoding="utf-8"))


if __name__ == "__main__":
    unittest.main()

"""The least and the greatest sums at all marks of the plans of a house with one number of people."""

from hourneeds.people import check_possible
from hourneeds.plans import Plan
from hourneeds.rounds import settle
from hourneeds.ways import links_of


def latest(house, people):
    """The Plan with so many people whose sums are the least at all marks."""
    check_possible(house, people)
    return Plan.of_sums(_least_sums(house, people))


def earliest(house, people):
    """The Plan with so many people whose sums are the greatest at all marks."""
    check_possible(house, people)
    return Plan.of_sums(_greatest_sums(house, people))


def sum_ranges(house, people):
    """The list of the tuples (least, greatest) of the sums at all marks."""
    check_possible(house, people)
    return list(zip(_least_sums(house, people), _greatest_sums(house, people)))


def _least_sums(house, people):
    """How much more than mark 0 each mark has to reach: as much as some steps that lead there from mark 0 ask."""
    kept = house.kept()
    marks = [sum(kept[:mark]) for mark in range(house.hours)]
    return settle(links_of(house), people, marks)[0] + [people]


def _greatest_sums(house, people):
    """The other way round: no mark reaches so much that some steps ask more of mark 0 than it has."""
    kept = house.kept()
    # Mark 0 has nothing left to ask of itself, each other one what the keep steps up to the end of the day ask.
    marks = [0] + [sum(kept[mark:]) - people for mark in range(1, house.hours)]
    turned_links = [(last, first, days, number, step) for first, last, days, number, step in links_of(house)]
    asked = settle(turned_links, people, marks)[0]
    return [-number for number in asked] + [people]

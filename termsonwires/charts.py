"""The one clean chart of a map, by which maps are compared."""

from termsonwires.chartforms import chart_value
from termsonwires.demands import need_map
from termsonwires.kinds import is_plain
from termsonwires.mapcharts import map_chart
from termsonwires.samples import parting_things


def both_charts(mapping, other_mapping):
    need_map(mapping)
    need_map(other_mapping)
    return (map_chart(mapping), map_chart(other_mapping))


def chart_of(mapping):
    """The clean chart that fits the same things and gives the same for each."""
    need_map(mapping)
    return chart_value(map_chart(mapping))


def shortened_map(mapping):
    """The map of the rules of its chart."""
    need_map(mapping)
    return ("rules", chart_value(map_chart(mapping)))


def same_map(mapping, other_mapping):
    """Whether both fit the same things and give the same for each."""
    chart, other = both_charts(mapping, other_mapping)
    return parting_things(chart, other) == [] and parting_things(other, chart) == []


def is_below(mapping, other_mapping):
    """Whether the other one fits all that the first one fits, and gives the same for it."""
    chart, other = both_charts(mapping, other_mapping)
    return parting_things(chart, other) == []


def parting(mapping, other_mapping):
    """A plain thing that one of them alone fits, or for which they give unlike things; None if there is none."""
    chart, other = both_charts(mapping, other_mapping)
    for thing in parting_things(chart, other) + parting_things(other, chart):
        if is_plain(thing):
            return thing
    return None

"""Charts: rules by which plain things are rewritten, each way one to one."""

from termsonwires.chartforms import chart_value, is_clean_chart, scanned_chart
from termsonwires.demands import need_chart
from termsonwires.flatforms import turned


def is_chart(value):
    """Whether the value is a clean chart."""
    return is_clean_chart(value)


def turned_chart(chart):
    """The chart that leads back, its rules in order."""
    need_chart(chart)
    return chart_value(turned(scanned_chart(chart)))

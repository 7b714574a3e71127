"""The tracer and the pens of one arm as stages, and which lines maps lead to lines."""

from drawarms.arms import map_of_cells, require_arm
from drawarms.errors import InvalidStage
from drawarms.gauss import NOUGHT, norm_of
from drawarms.maps import back_of, place_led, require_map
from drawarms.places import FAR
from drawarms.rounds import round_through
from drawarms.wholes import is_whole, reduced


def _require_stage(arm, stage):
    if not is_whole(stage) or not 0 <= stage <= len(arm):
        raise InvalidStage(stage)


def stage_map(arm, stage, other):
    """The map that leads the place of the first stage to that of the other one."""
    require_arm(arm)
    _require_stage(arm, stage)
    _require_stage(arm, other)
    if stage <= other:
        return map_of_cells(arm[stage:other])
    return back_of(map_of_cells(arm[other:stage]))


def are_copies(arm, stage, other):
    """Whether two stages draw copies of each other."""
    return stage_map(arm, stage, other)[3] == NOUGHT


def copy_size(arm, stage, other):
    """The norm of the factor of the map between two stages, as a reduced pair; None if they draw no copies."""
    chart = stage_map(arm, stage, other)
    return reduced((norm_of(chart[1]), norm_of(chart[4]))) if chart[3] == NOUGHT else None


def _source_of_far(chart):
    return place_led(back_of(chart), FAR)


def straight_place(chart):
    """The place that a map leads to the far place."""
    require_map(chart)
    return _source_of_far(chart)


def straight_twice(chart, other):
    """Which lines two maps both lead to lines: all, all through one place, or just one."""
    require_map(chart)
    require_map(other)
    places = sorted({_source_of_far(chart), _source_of_far(other)})
    near = [place for place in places if place != FAR]
    if not near:
        return ("all",)
    return ("through", near[0]) if len(near) == 1 else ("line", round_through(near[0], near[1], FAR))

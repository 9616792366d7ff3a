"""Rings inward of corners, and whether marks cover what a tool reaches [8] [9]."""

from millpath.corners import STEPS
from millpath.marks import marked
from millpath.reach import reached_in


def depths_in(points):
    """The rising list of pairs (corner, depth) of some unlike corners."""
    depths = {}
    depth = 0
    inner = [tuple(point) for point in points]
    while inner:
        for point in inner:
            depths[point] = depth
        inner = within_rim(inner)
        depth += 1
    return [(point, depths[point]) for point in sorted(depths)]


def within_rim(points):
    """The points all eight neighbours of which are points, too."""
    there = dict([(point, True) for point in points])
    return [point for point in points if is_walled(point, there)]


def is_walled(point, there):
    """Whether all eight neighbours of a point are in a dict of points."""
    for step in STEPS:
        if (point[0] + step[0], point[1] + step[1]) not in there:
            return False
    return True


def rings(points, first, width):
    """The list of the rising lists of the points of depth first, first + width and so on."""
    layers = []
    for point, depth in depths_in(points):
        while len(layers) <= depth:
            layers.append([])
        layers[depth].append(point)
    return layers[first::width]


def is_covering(region, tool, points):
    """Whether the marks at some corners hold all that a tool reaches of a region, and no more."""
    return marked(tool, points) == reached_in(region, tool)

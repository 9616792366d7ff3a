"""Making programs that clear a pocket in passes [14] [15]."""

from millpath.grain import with_grain
from millpath.marks import fits, near_quarters, noted
from millpath.outlines import corners_of, outside
from millpath.reach import centres
from millpath.rings import depths_in, rings
from millpath.runs import runs
from millpath.ways import over
from millpath.waysin import placed, way_in


class Maker:
    """Makes a program, order by order; at first no tool is taken, and it stands above corner (0, 0)."""

    def __init__(self, tools, clamps):
        self.tools = [tuple(tool) for tool in tools]
        self.clamps = [corners_of(clamp) for clamp in clamps]
        self.orders = []
        self.taken = None
        self.stand = (0, 0)

    def clear(self, region, deep, n, width, first, grain):
        """Clears a region by tool n: by rings inward, then, where first is above 0, by a round of depth 0."""
        points = centres(outside(region, self.clamps), self.tools[n])
        paths = inward_paths(points, width, first)
        if first > 0:
            paths.extend(grain_paths(rim_of(points), grain))
        self.cut_in_passes(paths, deep, n)

    def rest(self, region, gone, deep, n, grain):
        """Cuts by tool n, with the grain, wherever its mark holds what is not gone yet."""
        near = near_quarters(self.tools[n])
        there = noted(gone)
        points = centres(outside(region, self.clamps), self.tools[n])
        points = [point for point in points if not fits(near, point, there)]
        self.cut_in_passes(grain_paths(points, grain), deep, n)

    def program(self):
        """The list of all orders so far."""
        return list(self.orders)

    def cut_in_passes(self, paths, deep, n):
        """Orders cuts along some paths, each a run or a piece of one, pass by pass down to deep."""
        top = 0
        while top < deep:
            z = min(deep, top + self.tools[n][3])
            for path in paths:
                self.go_over(path[0], n)
                self.cut_along(path, top, z)
            top = z

    def go_over(self, corner, n):
        """Orders an over to a corner by tool n, and a take ahead of it where another tool was taken last."""
        if self.taken != n:
            self.orders.append(("take", n))
            self.taken = n
        how = over(self.tools[n], self.stand, corner, self.clamps)
        self.orders.append(("over", how, corner[0], corner[1]))

    def cut_along(self, path, top, z):
        """Orders a cut by the tool taken: the way in along a path, then the path's other corners."""
        places = way_in(path, top, z, self.tools[self.taken][4])
        places.extend([placed(corner, z) for corner in path[1:]])
        self.orders.append(("cut", tuple(places)))
        self.stand = path[-1]


def inward_paths(points, width, first):
    """The runs of all rings, from the first ring on."""
    paths = []
    for ring in rings(points, first, width):
        paths.extend(runs(ring))
    return paths


def grain_paths(points, grain):
    """The pieces with the grain of all runs of some points."""
    paths = []
    for run in runs(points):
        paths.extend(with_grain(run, grain))
    return paths


def rim_of(points):
    """The points of depth 0."""
    return [point for point, depth in depths_in(points) if depth == 0]

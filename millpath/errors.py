"""The refusals, one class for each."""


class MillError(ValueError):
    """Whatever the program refuses."""


class NoTool(MillError):
    """A tool that isn't there, or none that was taken."""


class NoWay(MillError):
    """A place that can't come where it stands in a cut."""


class Round(MillError):
    """Needs of jobs that go round in a ring."""


class Meets(MillError):
    """A mark that meets a clamp; spot is the corner at which it does."""

    def __init__(self, spot):
        self.spot = tuple(spot)
        MillError.__init__(self, self.spot)


class Bites(MillError):
    """A mark that goes deeper than the tool bites; spot is the corner at which it does."""

    def __init__(self, spot):
        self.spot = tuple(spot)
        MillError.__init__(self, self.spot)


class Cuts(MillError):
    """A mark that cuts what must stay: a quarter in a layer."""

    def __init__(self, layer, quarter):
        self.layer = layer
        self.quarter = tuple(quarter)
        MillError.__init__(self, layer, self.quarter)


class BadRow(MillError):
    """A row of a sheet that can't stand there; row is its number."""

    def __init__(self, row):
        self.row = row
        MillError.__init__(self, row)

"""Sheets: rows of a plate, its tools, clamps, pockets and jobs, and of questions [23] [24]."""

from millpath.cleared import cleared
from millpath.errors import BadRow
from millpath.jobs import least_takes
from millpath.marks import noted
from millpath.octos import octo_of, quarters_in
from millpath.outlines import shape
from millpath.plate import Plate
from millpath.reach import left_by, without
from millpath.times import time_of
from millpath.tools import half_of, is_tool
from millpath.words import is_name, numbers_in, outline_in

CHANGE = 100


def run(text):
    """The list of the answers to a sheet's questions, as texts."""
    sheet = Sheet()
    for row in text.split("\n"):
        sheet.read(row.split(" "))
    return sheet.answers


class Sheet:
    """What the rows of a sheet have told so far, and the answers; a row that can't stand there is refused."""

    def __init__(self):
        self.row = 0
        self.sizes = None
        self.tools = {}
        self.clamps = []
        self.pockets = {}
        self.jobs = {}
        self.plate = None
        self.answers = []

    def read(self, words):
        """Reads the next row."""
        kind = words[0]
        if self.row == 0:
            self.read_plate(words)
        elif kind in ("tool", "clamp", "pocket", "island"):
            # The plate is made with the first clear or away, behind which none of these may stand.
            self.ask(self.plate is None)
            self.read_part(kind, words[1:])
        elif kind == "left":
            self.tell_left(words[1:])
        elif kind == "clear":
            self.tell_clear(words[1:])
        elif kind == "away":
            self.tell_away(words[1:])
        elif kind == "job":
            self.read_job(words[1:])
        else:
            self.ask(words == ["takes"])
            self.tell_takes()
        self.row += 1

    def ask(self, right):
        """Refuses the row where something isn't right."""
        if not right:
            raise BadRow(self.row)

    def read_part(self, kind, words):
        """Reads a row of what must be known ahead of the plate."""
        if kind == "tool":
            self.read_tool(words)
        elif kind == "clamp":
            self.read_clamp(words)
        elif kind == "pocket":
            self.read_pocket(words)
        else:
            self.read_island(words)

    def read_plate(self, words):
        """Reads `plate WIDE HIGH DEEP`."""
        self.ask(words[0] == "plate" and len(words) == 4)
        self.sizes = self.numbers(words[1:])
        self.ask(all([1 <= size <= most for size, most in zip(self.sizes, (30, 30, 6))]))

    def read_tool(self, words):
        """Reads `tool NAME R K PACE BITE SLOPE`."""
        name = self.new_name(words, self.tools, 5)
        tool = tuple(self.numbers(words[1:]))
        self.ask(is_tool(tool))
        self.tools[name] = tool

    def read_clamp(self, words):
        """Reads `clamp X Y X Y ..`."""
        self.ask(len(self.clamps) < 6)
        self.clamps.append(self.outline(words))

    def read_pocket(self, words):
        """Reads `pocket NAME DEPTH X Y X Y ..`; a pocket is kept as its depth, its outline and its islands."""
        name = self.new_name(words, self.pockets, None)
        self.ask(len(words) > 1)
        depth = self.numbers(words[1:2])[0]
        self.ask(1 <= depth <= self.sizes[2])
        self.pockets[name] = (depth, self.outline(words[2:]), [])

    def read_island(self, words):
        """Reads `island NAME X Y ..`."""
        islands = self.pocket(words)[2]
        self.ask(len(islands) < 6)
        islands.append(self.outline(words[1:]))

    def read_job(self, words):
        """Reads `job NAME TOOL NAME ..`."""
        name = self.new_name(words, self.jobs, 10)
        self.ask(len(words) > 1)
        tool = self.places_of(words[1:2], self.tools)[0]
        self.jobs[name] = (tool, self.places_of(words[2:], self.jobs))

    def tell_left(self, words):
        """Answers `left NAME TOOL ..`."""
        pocket = self.pocket(words)
        self.places_of(words[1:], self.tools)
        left = left_by(shape(pocket[1], pocket[2]), [self.tools[name] for name in words[1:]])
        self.answers.append(str(len(left)))

    def tell_clear(self, words):
        """Answers `clear NAME WIDTH FIRST GRAIN TOOL ..`, and plays the program."""
        pocket = self.pocket(words)
        self.ask(len(words) > 4)
        plan = self.numbers(words[1:4])
        used = self.places_of(words[4:], self.tools)
        half = half_of(self.tools[words[4]])
        self.ask(1 <= plan[0] <= half and 0 <= plan[1] <= half and 0 <= plan[2] <= 7)
        tools = self.tool_list()
        told = cleared(shape(pocket[1], pocket[2]), pocket[0], tools, self.clamps, (used, plan[0], plan[1], plan[2]))
        self.play_program(told[0])
        numbers = [len(told[0]), len(told[1]), time_of(told[0], tools, CHANGE)]
        self.answers.append(" ".join([str(number) for number in numbers]))

    def tell_away(self, words):
        """Answers `away LAYER`."""
        self.ask(len(words) == 1)
        layer = self.numbers(words)[0]
        self.ask(0 <= layer < self.sizes[2])
        self.make_plate()
        self.answers.append(str(len(self.plate.away(layer))))

    def tell_takes(self):
        """Answers `takes`."""
        names = list(self.jobs)
        told = least_takes([self.jobs[name] for name in names])
        self.answers.append(" ".join([str(told[0])] + [names[number] for number in told[1]]))

    def numbers(self, words):
        """The numbers that words are."""
        numbers = numbers_in(words)
        self.ask(numbers is not None)
        return numbers

    def outline(self, words):
        """The outline whose corners' numbers are words."""
        corners = outline_in(words)
        self.ask(corners is not None)
        return corners

    def new_name(self, words, known, most):
        """The first word, a name that isn't there already, where there are fewer than most (None: any number)."""
        self.ask(len(words) > 0 and is_name(words[0]) and words[0] not in known)
        self.ask(most is None or len(known) < most)
        return words[0]

    def pocket(self, words):
        """The pocket that the first word names."""
        self.ask(len(words) > 0 and words[0] in self.pockets)
        return self.pockets[words[0]]

    def places_of(self, words, known):
        """Where unlike names stand among those that are there."""
        self.ask(all([word in known for word in words]) and len(set(words)) == len(words))
        names = list(known)
        return [names.index(word) for word in words]

    def tool_list(self):
        """The tools, numbered as they stand in the sheet."""
        return [self.tools[name] for name in self.tools]

    def make_plate(self):
        """Makes the sheet's one plate, where it isn't there yet."""
        if self.plate is None:
            wide = self.sizes[0]
            high = self.sizes[1]
            deep = self.sizes[2]
            stays = stays_in(wide, high, deep, [self.pockets[name] for name in self.pockets])
            self.plate = Plate(wide, high, deep, self.tool_list(), self.clamps, stays)

    def play_program(self, program):
        """Plays a program that begins at corner (0, 0) on the plate."""
        self.make_plate()
        if self.plate.tool() is not None:
            self.plate.play(("over", "high", 0, 0))
        self.plate.play_all(program)


def stays_in(wide, high, deep, pockets):
    """For each layer the region of a plate's quarters that lie in no pocket deeper than the layer's number."""
    whole = quarters_in(octo_of([(0, 0), (wide, 0), (0, high), (wide, high)]))
    stays = []
    for layer in range(deep):
        free = {}
        for depth, outline, islands in pockets:
            if depth > layer:
                free.update(noted(shape(outline, islands)))
        stays.append(without(whole, free))
    return stays

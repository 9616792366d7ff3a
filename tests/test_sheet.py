import random
import unittest

from plainjobs import plain_least
from plainly import shifted
from plainpaths import TWO_ROOMS, plain_cleared, plain_reached, region_of
from plainplate import PlainPlate, all_quarters, outcome, plain_time

from millpath.errors import BadRow
from millpath.sheet import run

TOOLS = {"big": (4, 2, 1, 1, 3), "mid": (3, 1, 2, 2, 2), "small": (2, 1, 3, 1, 1), "wide": (6, 5, 1, 3, 9)}
ROOM = [(2, 2), (14, 2), (14, 12), (2, 12)]
ISLAND = [(6, 6), (8, 6), (8, 8), (6, 8)]
CLAMP = [(12, 2), (14, 2), (14, 5), (12, 5)]


def spelled(corners):
    return " ".join(f"{x} {y}" for x, y in corners)


def tool_row(name, tool=None):
    return f"tool {name} " + " ".join(str(number) for number in tool or TOOLS[name])


def corners_in(words):
    numbers = [int(word) for word in words]
    return list(zip(numbers[::2], numbers[1::2]))


class PlainSheet:
    """Answers rows that are all right, from plain answers alone."""

    def __init__(self):
        self.tools, self.clamps, self.pockets, self.jobs, self.plate = {}, [], {}, {}, None
        self.answers = []

    def region(self, name):
        return region_of(self.pockets[name][1], self.pockets[name][2])

    def read(self, row):
        words = row.split()
        getattr(self, words[0])(words[1:])

    def numbers(self, names, known):
        return [list(known).index(name) for name in names]

    def size(self, words):
        self.sizes = [int(word) for word in words]

    def tool(self, words):
        self.tools[words[0]] = tuple(int(word) for word in words[1:])

    def clamp(self, words):
        self.clamps.append(corners_in(words))

    def pocket(self, words):
        self.pockets[words[0]] = (int(words[1]), corners_in(words[2:]), [])

    def island(self, words):
        self.pockets[words[0]][2].append(corners_in(words[1:]))

    def job(self, words):
        self.jobs[words[0]] = (self.numbers(words[1:2], self.tools)[0], self.numbers(words[2:], self.jobs))

    def left(self, words):
        region = self.region(words[0])
        gone = set().union(*[plain_reached(region, self.tools[name]) for name in words[1:]])
        self.answers.append(str(len(set(region) - gone)))

    def whole_plate(self):
        if self.plate is None:
            wide, high, deep = self.sizes
            stays = []
            for layer in range(deep):
                free = [self.region(name) for name in self.pockets if self.pockets[name][0] > layer]
                stays.append(sorted(all_quarters(wide, high).difference(*free)))
            self.plate = PlainPlate(wide, high, deep, list(self.tools.values()), self.clamps, stays)
        return self.plate

    def clear(self, words):
        width, first, grain = [int(word) for word in words[1:4]]
        plan, tools = (self.numbers(words[4:], self.tools), width, first, grain), list(self.tools.values())
        program, left = plain_cleared(self.region(words[0]), self.pockets[words[0]][0], tools, self.clamps, plan)
        plate = self.whole_plate()
        if plate.number is not None:
            plate.play(("over", "high", 0, 0))
        for order in program:
            assert plate.play(order) is None
        self.answers.append(f"{len(program)} {len(left)} {plain_time(program, tools, 100)}")

    def away(self, words):
        self.answers.append(str(len(self.whole_plate().gone[int(words[0])])))

    def takes(self, words):
        number, order = plain_least(list(self.jobs.values()))
        self.answers.append(" ".join([str(number)] + [list(self.jobs)[at] for at in order]))


def plain_run(rows):
    sheet = PlainSheet()
    sheet.size(rows[0].split()[1:])
    for row in rows[1:]:
        sheet.read(row)
    return sheet.answers


class Base(unittest.TestCase):
    def answered(self, *rows):
        told = run("\n".join(rows))
        self.assertIs(type(told), list)
        self.assertTrue(all(type(answer) is str for answer in told))
        self.assertEqual(told, plain_run(rows))
        self.assertEqual(run("\n".join(rows)), told)
        return told

    def fine(self, *rows):
        """Rows that stand, whatever they answer."""
        return run("\n".join(rows))

    def refused(self, at, *rows):
        with self.assertRaises(BadRow, msg=rows) as caught:
            run("\n".join(rows))
        self.assertEqual(caught.exception.row, at, rows)

    def refused_last(self, *rows):
        self.refused(len(rows) - 1, *rows)
        self.refused(len(rows) - 1, *rows, "plate 1 1 1", "nothing")


class Answers(Base):
    def test_a_plate_alone(self):
        self.assertEqual(self.fine("plate 1 1 1"), [])
        self.assertEqual(self.fine("plate 30 30 6"), [])
        first = self.fine("plate 3 3 3")
        first.append("more")
        self.assertEqual(self.fine("plate 3 3 3"), [])

    def test_left(self):
        rows = ["plate 20 20 2", f"pocket room 2 {spelled(ROOM)}", "left room", tool_row("big"), "left room big",
                tool_row("small"), "left room small", "left room big small", "left room small big", "left room"]
        told = self.answered(*rows)
        self.assertEqual((told[0], told[-1]), ("480", "480"))
        self.answered(*rows, tool_row("wide"), "left room wide", "left room wide big", "left room big wide small")

    def test_left_with_the_islands_so_far_and_without_clamps(self):
        rows = ["plate 20 20 2", tool_row("big"), f"pocket room 2 {spelled(ROOM)}", "left room big",
                f"clamp {spelled(CLAMP)}", "left room big", f"island room {spelled(ISLAND)}", "left room big",
                f"island room {spelled(shifted(ISLAND, 3, 3))}", "left room big", f"island room {spelled(ROOM)}", "left room big",
                "left room"]
        told = self.answered(*rows)
        self.assertEqual(told[0], told[1])
        self.assertEqual(told[4:], ["0", "0"])

    def test_clear_and_away(self):
        for plan in ("2 1 0 big", "3 0 5 big small", "1 3 3 big mid small", "1 1 7 small", "1 0 2 small big"):
            told = self.answered("plate 20 20 3", tool_row("mid"), tool_row("big"), tool_row("small"),
                                 f"pocket room 2 {spelled(ROOM)}", f"island room {spelled(ISLAND)}",
                                 f"clamp {spelled(CLAMP)}", f"clear room {plan}", "away 0", "away 1", "away 2")
            self.assertEqual(told[3], "0")
            self.assertEqual(int(told[0].split()[1]) + int(told[1]), 480 - 16)

    def test_the_tools_are_numbered_as_they_stand(self):
        rows = ["plate 20 20 1", f"pocket room 1 {spelled(ROOM)}", "clear room 1 1 0 small", "away 0"]
        alone = self.fine(rows[0], tool_row("small"), *rows[1:])
        self.assertEqual(self.fine(rows[0], tool_row("wide"), tool_row("small"), *rows[1:]), alone)
        self.assertEqual(self.fine(rows[0], tool_row("small"), tool_row("wide"), *rows[1:]), alone)

    def test_a_tool_that_reaches_nothing(self):
        told = self.answered("plate 20 20 1", tool_row("wide"), f"pocket room 1 {spelled(ROOM)}",
                             "clear room 1 0 0 wide", "away 0")
        self.assertEqual(told, ["0 480 0", "0"])

    def test_several_clears_on_the_one_plate(self):
        other = shifted(TWO_ROOMS, 3, 9)
        rows = ["plate 30 25 4", tool_row("small"), tool_row("mid"), f"pocket room 2 {spelled(ROOM)}",
                f"pocket other 4 {spelled(other)}", f"pocket again 3 {spelled(ROOM)}", f"clamp {spelled(CLAMP)}",
                f"island again {spelled(ISLAND)}"]
        alone = self.answered(*rows, "clear other 1 1 4 small")
        told = self.answered(*rows, "away 1", "clear room 2 1 1 mid small", "away 0", "away 2", "clear other 1 1 4 small",
                             "away 0", "away 3", "clear again 1 0 0 mid", "away 1", "away 2", "clear other 1 1 4 small",
                             "away 3", "left room mid", "takes")
        self.assertEqual((told[0], told[4], told[10]), ("0", alone[0], alone[0]))

    def test_a_clear_without_orders_ahead_of_others(self):
        self.answered("plate 20 20 1", tool_row("wide"), tool_row("small"), f"pocket room 1 {spelled(ROOM)}",
                      "clear room 1 1 1 wide", "away 0", "clear room 1 1 1 small", "away 0", "clear room 1 1 1 wide",
                      "clear room 1 0 3 small", "away 0")

    def test_a_later_clear_begins_at_the_corner_again(self):
        clamp = [(0, 4), (12, 4), (12, 5), (0, 5)]
        rows = ["plate 24 24 1", tool_row("small"), f"pocket one 1 {spelled(shifted(ROOM, 0, 4))}",
                f"pocket two 1 {spelled(shifted(ROOM, 9, 8))}", f"clamp {spelled(clamp)}"]
        told = self.answered(*rows, "clear one 1 1 0 small", "clear two 1 1 0 small", "away 0")
        self.assertEqual(told[1], self.answered(*rows, "clear two 1 1 0 small")[0])

    def test_pockets_over_one_another_and_beyond_the_plate(self):
        rows = ["plate 10 8 3", tool_row("small"), tool_row("mid"), "pocket deep 3 -6 -6 5 -6 5 5 -6 5",
                "pocket flat 1 0 0 20 0 20 6 0 6", "pocket far 2 20 20 30 20 30 30 20 30", "island deep 0 0 2 0 2 2 0 2"]
        self.answered(*rows, "clear flat 1 1 0 small", "away 0", "away 1", "clear deep 1 0 0 small", "away 0", "away 1",
                      "away 2", "clear far 1 1 1 mid small", "away 0", "away 1")
        self.answered(*rows, "clear deep 2 1 6 mid small", "away 0", "away 1", "clear flat 1 1 0 small", "away 0", "away 2")

    def test_away_ahead_of_any_clear(self):
        self.assertEqual(self.answered("plate 5 5 3", "away 0", "away 2", "away 1", "away 0"), ["0"] * 4)

    def test_takes(self):
        rows = ["plate 5 5 1", "takes", tool_row("big"), tool_row("small"), "job a big", "takes", "job b small a", "takes",
                "job c big", "takes", "job d small", "job e big b", "job big big", "takes", "job z small a b c d e big", "takes"]
        told = self.answered(*rows)
        self.assertEqual(told[:4], ["0", "1 a", "2 a b", "2 a c b"])

    def test_ten_jobs(self):
        jobs = [f"job {letter} {tool}" for letter, tool in zip("abcdefghij", ["big", "small"] * 5)]
        self.assertEqual(self.fine("plate 5 5 1", tool_row("big"), tool_row("small"), *jobs, "takes"),
                         ["2 a c e g i b d f h j"])

    def test_names_of_tools_pockets_and_jobs_each_by_itself(self):
        self.answered("plate 20 20 1", tool_row("a", TOOLS["small"]), f"pocket a 1 {spelled(ROOM)}", "job a a",
                      "left a a", "clear a 1 1 0 a", "takes", "job takes a a", "job abcdefgh a takes a", "takes")

    def test_the_four_in_any_order(self):
        rows = [tool_row("small"), f"clamp {spelled(CLAMP)}", f"pocket room 1 {spelled(ROOM)}", tool_row("mid"),
                f"island room {spelled(ISLAND)}", "left room small mid", "takes"]
        source = random.Random(331)
        for _ in range(20):
            mixed = source.sample(rows, len(rows))
            mixed.remove(rows[4])
            mixed.remove(rows[5])
            mixed.insert(mixed.index(rows[2]) + 1, rows[4])
            told = self.answered("plate 20 20 1", *mixed, rows[5], "clear room 1 1 0 small mid", "away 0")
            self.assertEqual(len(told), 4)

    def test_jobs_takes_and_left_behind_a_clear(self):
        self.answered("plate 20 20 1", tool_row("small"), f"pocket room 1 {spelled(ROOM)}", "clear room 1 1 0 small",
                      "job a small", "takes", "left room small", "job b small a", "takes", "clear room 1 0 0 small", "away 0")

    def test_what_chance_brings(self):
        source = random.Random(332)
        for _ in range(25):
            wide, high, deep = source.randint(5, 24), source.randint(5, 24), source.randint(1, 4)
            names = source.sample(sorted(TOOLS), source.randint(1, 3))
            rows = [f"plate {wide} {high} {deep}"] + [tool_row(name) for name in names]
            for at in range(source.randint(0, 2)):
                rows.append(f"clamp {spelled(shifted(ISLAND, source.randint(-8, 14), source.randint(-8, 14)))}")
            for at in range(source.randint(1, 3)):
                x, y = source.randint(-6, 8), source.randint(-6, 8)
                rows.append(f"pocket {'abc'[at]} {source.randint(1, deep)} {spelled(shifted(ROOM, x, y))}")
                if source.random() < 0.5:
                    rows.append(f"island {'abc'[at]} {spelled(shifted(ISLAND, x, y))}")
            pockets = [row.split()[1] for row in rows if row.startswith("pocket")]
            for _ in range(source.randint(1, 4)):
                used = source.sample(names, source.randint(1, len(names)))
                half = (TOOLS[used[0]][0] + TOOLS[used[0]][1]) // 2
                rows.append(f"clear {source.choice(pockets)} {source.randint(1, half)} {source.randint(0, half)} "
                            f"{source.randrange(8)} {' '.join(used)}")
                rows.append(f"left {source.choice(pockets)} {' '.join(used[1:])}".strip())
                rows.append(f"away {source.randrange(deep)}")
            self.answered(*rows)


class Refusals(Base):
    def setUp(self):
        self.rows = ["plate 20 20 3", tool_row("big"), tool_row("small"), f"pocket room 2 {spelled(ROOM)}", "job one big"]

    def test_an_empty_text_and_empty_rows(self):
        self.refused(0, "")
        self.refused(0, "", "plate 3 3 3")
        self.refused_last("plate 3 3 3", "")
        self.refused(2, *self.rows[:2], "", *self.rows[2:])
        self.refused(1, "plate 3 3 3", " ")
        self.refused(0, " ")

    def test_the_first_row(self):
        for row in (tool_row("big"), "takes", "away 0", "plates 3 3 3", "Plate 3 3 3", "plate", "plate 3", "plate 3 3",
                    "plate 3 3 3 3", "plate 0 3 3", "plate 3 0 3", "plate 3 3 0", "plate 31 3 3", "plate 3 31 3",
                    "plate 3 3 7", "plate -3 3 3", "plate a 3 3", "plate 3 3 3 ", " plate 3 3 3", "plate  3 3 3", "3 3 3"):
            self.refused(0, row)
            self.refused(0, row, *self.rows)
        for row in ("plate 1 1 1", "plate 30 30 6", "plate 30 1 1", "plate 1 30 6"):
            self.assertEqual(self.fine(row, "takes"), ["0"])

    def test_a_second_plate(self):
        self.refused_last("plate 3 3 3", "plate 3 3 3")
        self.refused(5, *self.rows, "plate 20 20 3")

    def test_numbers(self):
        self.assertEqual(self.fine(*self.rows, "away 0", "away 1", "away 2"), ["0"] * 3)
        for word in ("00", "01", "-0", "+0", "+1", "0.0", "1.0", "a", "-", "--1", "- 1", "1-", "12345", "-12345", "00000",
                     "0x1", "1e0", "1_0", "", " 1", "1 ", "1\t", "\t1", "\r1", "one", "-01", "010", "١", "²", "1,", "None", "True"):
            self.refused(5, *self.rows, f"away {word}")
            self.refused(5, *self.rows, f"clear room {word} 1 0 big")
            self.refused(5, *self.rows, f"pocket other {word} {spelled(ROOM)}")
            self.refused(5, *self.rows, f"tool mid {word} 1 1 1 1")
            self.refused(5, *self.rows, f"tool mid 3 1 1 1 {word}")
            self.refused(5, *self.rows, f"clamp {word} 0 3 0 3 3")
            self.refused(5, *self.rows, f"clamp 0 0 3 0 3 {word}")

    def test_numbers_below_nought_and_of_four_figures(self):
        self.fine(*self.rows, "clamp -40 -40 -39 -40 -40 -39")
        self.fine(*self.rows, "clamp -10 0 0 -10 10 0 0 10")
        for row in ("clamp 1000 0 1001 0 1000 1", "clamp -1000 0 -999 0 -1000 1", "away 9999", "away -9999", "away -1"):
            self.refused(5, *self.rows, row)

    def test_names(self):
        for name in ("a", "z", "abcdefgh", "plate", "tool", "takes"):
            self.fine(*self.rows, tool_row(name, TOOLS["mid"]), f"pocket {name} 1 {spelled(ROOM)}", f"job {name} {name}",
                      f"left {name} {name}", f"clear {name} 1 1 0 {name}")
        for name in ("", "A", "aB", "abcdefghi", "a1", "1", "0", "a_b", "a-b", "-", "a\t", "a\r", ".", "ä", "é", "ª", "a b"):
            self.refused(5, *self.rows, tool_row(name, TOOLS["mid"]))
            self.refused(5, *self.rows, f"pocket {name} 1 {spelled(ROOM)}")
            self.refused(5, *self.rows, f"job {name} big")
            self.refused(5, *self.rows, f"left room {name}")
            self.refused(5, *self.rows, f"job two {name}")

    def test_names_told_twice(self):
        self.refused(5, *self.rows, tool_row("big", TOOLS["mid"]))
        self.refused(5, *self.rows, tool_row("small"))
        self.refused(5, *self.rows, f"pocket room 1 {spelled(ROOM)}")
        self.refused(5, *self.rows, "job one small")

    def test_names_that_are_not_there(self):
        for row in ("left none", "left big", "left one", "left room mid", "left room room", "left room big one",
                    "clear none 1 1 0 big", "clear room 1 1 0 mid", "clear room 1 1 0 big mid", "clear big 1 1 0 big",
                    f"island none {spelled(ISLAND)}", f"island big {spelled(ISLAND)}", "job two mid", "job two one",
                    "job two room", "job two big two", "job two big room", "job two big small", "job two big none",
                    "job two big one none"):
            self.refused(5, *self.rows, row)

    def test_names_told_only_behind(self):
        self.refused(1, "plate 9 9 1", "left room", f"pocket room 1 {spelled(ROOM)}")
        self.refused(2, "plate 9 9 1", f"pocket room 1 {spelled(ROOM)}", "left room big", tool_row("big"))
        self.refused(1, "plate 9 9 1", "job a big", tool_row("big"))
        self.refused(2, "plate 9 9 1", tool_row("big"), "job a big b", "job b big")
        self.refused(1, "plate 9 9 1", f"island room {spelled(ISLAND)}", f"pocket room 1 {spelled(ROOM)}")
        self.refused(2, "plate 9 9 1", f"pocket room 1 {spelled(ROOM)}", "clear room 1 1 0 big", tool_row("big"))

    def test_kinds_of_rows(self):
        for row in ("nothing", "Tool big 3 1 1 1 1", "take", "takes 1", "takes ", " takes", "takes one", "lefts room", "aways 0",
                    "away", "away 0 0", "left", "clear", "job", "tool", "clamp", "pocket", "island", "islands", "TAKES",
                    "takes\r", "away 0\r", "left room\r", "left  room", "left room  big", "left room ", "left room big ",
                    "job  two big", "job two", "job two  big", "job two big ", "clear room", "clear room 1", "clear room 1 1",
                    "clear room 1 1 0", "clear room 1 1 0 ", "clear room 1 1 big", "island room", "pocket other", "pocket other 1",
                    "tool mid", "tool mid 3 1 1 1", "tool mid 3 1 1 1 1 1", "#", "clamp room", "run"):
            self.refused(5, *self.rows, row)
        self.refused(0, "plate 3 3 3\r", "takes\r")

    def test_another_kind_of_line_end(self):
        for end in ("\r", "\x0b", "\x0c", "\x85", "\u2028", "\x1c", "\t"):
            with self.assertRaises(BadRow) as caught:
                run(f"plate 3 3 3{end}takes")
            self.assertEqual(caught.exception.row, 0)

    def test_tools(self):
        for tool in ((2, 1, 1, 1, 1), (6, 5, 9, 9, 9), (6, 1, 1, 9, 1)):
            self.fine(*self.rows, tool_row("mid", tool))
        for tool in ((1, 1, 1, 1, 1), (7, 1, 1, 1, 1), (3, 3, 1, 1, 1), (3, 0, 1, 1, 1), (3, -1, 1, 1, 1), (3, 1, 0, 1, 1),
                     (3, 1, 10, 1, 1), (3, 1, 1, 0, 1), (3, 1, 1, 10, 1), (3, 1, 1, 1, 0), (3, 1, 1, 1, 10), (0, 0, 1, 1, 1)):
            self.refused(5, *self.rows, tool_row("mid", tool))

    def test_a_sixth_tool(self):
        tools = [tool_row(name, TOOLS["mid"]) for name in "abc"]
        self.fine(*self.rows, *tools, "left room a b c big small")
        self.refused(8, *self.rows, *tools, tool_row("d", TOOLS["mid"]))

    def test_a_seventh_clamp(self):
        clamps = [f"clamp {spelled(shifted(ISLAND, at, 0))}" for at in range(7)]
        self.fine(*self.rows, *clamps[:6])
        self.refused(11, *self.rows, *clamps)

    def test_a_seventh_island_of_a_pocket(self):
        islands = [f"island room {spelled(shifted(ISLAND, at, 0))}" for at in range(7)]
        self.fine(*self.rows, *islands[:6], "left room big")
        self.refused(11, *self.rows, *islands)
        self.fine(*self.rows, *islands[:6], f"pocket other 1 {spelled(ROOM)}", f"island other {spelled(ISLAND)}")

    def test_an_eleventh_job(self):
        jobs = [f"job {letter} small" for letter in "abcdefghij"]
        self.fine(*self.rows, *jobs[:9], "takes")
        self.refused(14, *self.rows, *jobs)

    def test_many_pockets(self):
        pockets = [f"pocket {letter} 1 {spelled(shifted(ISLAND, at, at))}" for at, letter in enumerate("abcdefghijklmno")]
        self.fine(*self.rows, *pockets, "left a", "left o")

    def test_outlines(self):
        rows = ("clamp", "pocket other 1", "island room")
        stairs = [(at // 2, (at + 1) // 2) for at in range(23)] + [(11, 0)]
        more = [(at // 2, (at + 1) // 2) for at in range(23)] + [(11, 5), (11, 0)]
        for corners in (ROOM, stairs, [(0, 0), (1, 0), (0, 1)], [(-40, -40), (60, -40), (60, 60), (-40, 60)]):
            for row in rows:
                self.fine(*self.rows, f"{row} {spelled(corners)}")
        self.assertEqual((len(stairs), len(more)), (24, 25))
        for corners in (more, ROOM[:2], ROOM[:1], [], [(0, 0), (2, 1), (0, 2)], [(0, 0), (2, 2), (2, 0), (0, 2)],
                        [(0, 0), (2, 0), (1, 0)], [(0, 0), (3, 0), (3, 3), (0, 0)], ROOM + ROOM[:1],
                        [(-41, 0), (0, 0), (0, 1), (-41, 1)], [(0, 0), (61, 0), (61, 1), (0, 1)],
                        [(0, -41), (1, -41), (1, 0), (0, 0)], [(0, 0), (1, 0), (1, 61), (0, 61)]):
            for row in rows:
                self.refused(5, *self.rows, f"{row} {spelled(corners)}".strip())
        for row in rows:
            self.refused(5, *self.rows, f"{row} {spelled(ROOM)} 1")
            self.refused(5, *self.rows, f"{row} 0 0 2 0 2 2 0")

    def test_depths(self):
        for depth in (1, 2, 3):
            self.fine(*self.rows, f"pocket other {depth} {spelled(ROOM)}")
        for depth in (0, -1, 4, 7):
            self.refused(5, *self.rows, f"pocket other {depth} {spelled(ROOM)}")
        self.fine("plate 3 3 6", f"pocket other 6 {spelled(ROOM)}")
        self.refused(1, "plate 3 3 1", f"pocket other 2 {spelled(ROOM)}")

    def test_layers(self):
        self.fine(*self.rows, "away 0", "away 2")
        self.refused(5, *self.rows, "away 3")
        self.refused(5, *self.rows, "away -1")
        self.refused(2, "plate 3 3 1", "away 0", "away 1")

    def test_width_first_and_grain(self):
        for width, first, grain, tools in ((1, 0, 0, "big"), (3, 3, 7, "big"), (1, 1, 0, "small"), (3, 0, 0, "big small"),
                                           (1, 1, 7, "small big")):
            self.fine(*self.rows, f"clear room {width} {first} {grain} {tools}")
        for width, first, grain, tools in ((0, 0, 0, "big"), (4, 0, 0, "big"), (1, 4, 0, "big"), (1, -1, 0, "big"),
                                           (-1, 0, 0, "big"), (1, 0, 8, "big"), (1, 0, -1, "big"), (2, 0, 0, "small"),
                                           (1, 2, 0, "small"), (2, 1, 0, "small big"), (1, 2, 0, "small big"),
                                           (1, 1, 0, "")):
            self.refused(5, *self.rows, f"clear room {width} {first} {grain} {tools}".strip())

    def test_things_twice_in_a_row(self):
        for row in ("left room big big", "left room big small big", "clear room 1 1 0 big big",
                    "clear room 1 1 0 big small small", "job two big one one"):
            self.refused(5, *self.rows, row)
        self.fine(*self.rows, "job two big one", "job three big two one", "left room small big")

    def test_the_four_behind_a_clear_or_an_away(self):
        for ahead in ("clear room 1 1 0 big", "away 2"):
            for row in (tool_row("mid"), f"clamp {spelled(CLAMP)}", f"pocket other 1 {spelled(ROOM)}",
                        f"island room {spelled(ISLAND)}"):
                self.fine(*self.rows, row, ahead)
                self.refused(6, *self.rows, ahead, row)
                self.refused(8, *self.rows, ahead, "takes", "left room big", row)
                self.fine(*self.rows, "takes", "left room", "job two big", row, ahead)

    def test_several_rows_that_cannot_stand(self):
        self.refused(5, *self.rows, "away 9", "left none", "")
        self.refused(6, *self.rows, "away 1", tool_row("mid"), "away 9")
        self.refused(0, "plate 0 0 0", "nothing")
        self.refused(2, "plate 9 9 1", "takes", "job a big", "job a big")

    def test_the_same_text_again(self):
        text = "\n".join(self.rows + ["clear room 2 1 0 big small", "away 0", "takes"])
        told = run(text)
        self.assertEqual(run(text), told)
        self.assertEqual(outcome(run, text + "\n"), ("BadRow", 8))
        told.clear()
        self.assertEqual(len(run(text)), 3)

    def test_the_greatest_sheet(self):
        rows = ["plate 30 30 6", tool_row("big", (6, 5, 9, 2, 9)), tool_row("mid", (4, 1, 3, 1, 9)), tool_row("small"),
                "pocket a 6 1 1 28 1 28 28 1 28", "island a 8 8 12 8 12 12 8 12", "island a 20 20 22 20 22 22 20 22",
                "clamp 0 0 2 0 2 2 0 2", "clamp 27 27 30 27 30 30 27 30"]
        rows += ["clear a 5 2 3 big mid small", "clear a 1 1 0 small"] + [f"away {at % 6}" for at in range(40)]
        told = run("\n".join(rows))
        self.assertEqual(len(told), 42)
        self.assertEqual(told[2:8], [told[2]] * 6)


if __name__ == "__main__":
    unittest.main()

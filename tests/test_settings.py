"""The texts of halls, and the logs of what is done at them (points 31, 32)."""

import copy
import itertools
import random
import re
import unittest

from beatless.errors import Fallen, NoDeed, NoProgram, NoText, NoWay, NoWeb
from beatless.halls import Hall
from beatless.programs import program_text, read_program
from beatless.settings import read_setting, replay, setting_text
from beatless.ways import Way, by_neighbours, by_tree
from beatless.webs import Web
from samples import ANYTHING, NO_WHOLES, Refusing, all_lines, path_web, some_settings, stand_of, unlet_ways

GATHER = read_program("start me\nsend worth\nwhen 1\nreckon add worth sum")
TWO = Web([1, 2], [(1, 2)])
FOUR = Web([1, 4, 7, 9], [(4, 9), (1, 4), (7, 9), (4, 7)])
FOUR_WAY = Way({9: None, 7: 9, 4: 1, 1: None}, [(4, 9), (4, 7)])
FOUR_ROWS = [
    "hands 1 4 7 9", "line 1 4", "line 4 7", "line 4 9", "line 7 9", "parent 4 1", "parent 7 9", "bridge 4 7",
    "bridge 4 9", "start me", "send worth", "when 1", "reckon add worth sum", "rounds 3",
]
FEWEST_ROWS = ["hands 0", "start 0", "send 0", "when 0", "reckon 0", "rounds 0"]
ORDER = ["hands", "line", "parent", "bridge", "start", "send", "when", "reckon", "rounds"]
NUMBER = "(0|[1-9][0-9]{0,19})"
FORMS = {
    "hands": f"hands( {NUMBER})+", "line": f"line {NUMBER} {NUMBER}", "parent": f"parent {NUMBER} {NUMBER}",
    "bridge": f"bridge {NUMBER} {NUMBER}", "rounds": "rounds ([0-9]|[1-3][0-9]|40)",
}


def is_expression(words):
    """Point 9, from the first word on: how many expressions are still to come."""
    due = 1
    divisors = []
    for word in words:
        if due == 0:
            return False
        due -= 1
        is_number = re.fullmatch("0|-?[1-9][0-9]*", word) is not None
        if divisors and divisors[-1] == due + 1:
            divisors.pop()
            if not is_number:
                return False
        elif word in ("add", "sub", "min", "max"):
            due += 2
        elif word == "mod":
            due += 2
            # The divisor is the one that is left to come when the other one has come.
            divisors.append(due - 1)
        elif word == "less":
            due += 4
        elif not is_number and word not in "worth me round lines to sum least most count".split():
            return False
    return due == 0


def is_row(row):
    kind = row.split(" ")[0]
    if kind in FORMS:
        return re.fullmatch(FORMS[kind], row) is not None
    return kind in ORDER and is_expression(row.split(" ")[1:])


def stands_wrong(ahead, row):
    """Whether a row may not stand behind another one."""
    kind, kind_ahead = row.split(" ")[0], ahead.split(" ")[0]
    numbers, numbers_ahead = [
        tuple(int(word) for word in each.split(" ")[1:]) if kind in ("line", "bridge", "parent") and
        kind == kind_ahead else () for each in (row, ahead)
    ]
    if kind != kind_ahead:
        return ORDER.index(kind_ahead) > ORDER.index(kind)
    if kind in ("line", "bridge"):
        return not numbers_ahead < numbers
    if kind == "parent":
        return not numbers_ahead[0] < numbers[0]
    return True


def wrong_row(text):
    """The row that NoText tells, or None where there is none: the words of point 31, each row against all ahead."""
    rows = text.split("\n")
    for at, row in enumerate(rows):
        if not is_row(row) or any(stands_wrong(ahead, row) for ahead in rows[:at]):
            return at
    kinds = [row.split(" ")[0] for row in rows]
    if all(kind in kinds for kind in ("hands", "start", "send", "when", "reckon", "rounds")):
        return None
    return len(rows)


def told_of(setting):
    web, way, program, rounds = setting
    return (web.hands(), web.lines(), way.all_parents(), way.all_bridges(), program_text(program), rounds)


class Texts(Refusing):
    def refuse_row(self, text, row):
        self.refuse(NoText, read_setting, text, told={"row": row})

    def refuse_rows(self, rows, row):
        self.refuse_row("\n".join(rows), row)


class Writing(Refusing):
    def test_rows_in_their_order(self):
        self.assertEqual(setting_text(FOUR, FOUR_WAY, GATHER, 3), "\n".join(FOUR_ROWS))

    def test_without_lines(self):
        web = Web([0], [])
        program = read_program("start 0\nsend 0\nwhen 0\nreckon 0")
        self.assertEqual(setting_text(web, by_tree(web), program, 0), "\n".join(FEWEST_ROWS))
        web = Web([5, 99], [])
        text = setting_text(web, by_tree(web), GATHER, 40)
        self.assertEqual(text, "hands 5 99\n" + program_text(GATHER) + "\nrounds 40")

    def test_no_way(self):
        for web, way in unlet_ways():
            for rounds in (0, 3):
                self.refuse(NoWay, setting_text, web, way, GATHER, rounds)

    def test_by_names_of_arguments(self):
        text = setting_text(rounds=3, program=GATHER, way=FOUR_WAY, web=FOUR)
        self.assertEqual(told_of(read_setting(text=text)), told_of((FOUR, Way(*sorted_way(FOUR_WAY)), GATHER, 3)))

    def test_nothing_is_changed(self):
        setting_text(FOUR, FOUR_WAY, GATHER, 3)
        self.assertEqual(FOUR_WAY.all_bridges(), [(4, 9), (4, 7)])
        self.assertEqual(list(FOUR_WAY.all_parents()), [9, 7, 4, 1])


def sorted_way(way):
    return way.all_parents(), sorted(way.all_bridges())


class Reading(Texts):
    def test_what_was_written_is_read(self):
        for web, way, program, rounds, chance in some_settings(31):
            text = setting_text(web, way, program, rounds)
            told = read_setting(text)
            self.assertIs(type(told), tuple)
            self.assertEqual(told_of(told), told_of((web, Way(*sorted_way(way)), program, rounds)))
            self.assertEqual(setting_text(*told), text)
            self.assertIsNone(wrong_row(text))

    def test_kinds_of_what_is_read(self):
        web, way, program, rounds = read_setting("\n".join(FOUR_ROWS))
        self.assertEqual((type(web).__name__, type(way).__name__, type(program).__name__), ("Web", "Way", "Program"))
        self.assertEqual(told_of((web, way, program, rounds)), told_of((FOUR, Way(*sorted_way(FOUR_WAY)), GATHER, 3)))
        hall = Hall(web, way, program, rounds)
        while hall.road():
            hall.carry(0)
        self.assertIs(hall.done(), True)

    def test_no_text(self):
        for value in ANYTHING:
            if not isinstance(value, str):
                self.refuse_row(value, 0)
        for text in ("", "1", "ab", " ", "hands", "\n", "\n\n"):
            self.refuse_row(text, 0)

    def test_one_row_left_out(self):
        for at, row in enumerate(FOUR_ROWS):
            rows = FOUR_ROWS[:at] + FOUR_ROWS[at + 1:]
            if row.split(" ")[0] in ("line", "parent", "bridge"):
                # Bridges that are left out may not be needed; all else is the way's.
                if row in ("bridge 4 7", "bridge 4 9"):
                    self.assertEqual(len(read_setting("\n".join(rows))[1].all_bridges()), 1)
                else:
                    self.refuse(NoWay, read_setting, "\n".join(rows))
            else:
                self.refuse_rows(rows, len(rows))

    def test_cut_short(self):
        for many in range(1, len(FOUR_ROWS)):
            self.refuse_rows(FOUR_ROWS[:many], many)

    def test_a_wrong_row_is_told_ahead_of_one_that_lacks(self):
        self.refuse_rows(["line 1 2", "line 1 2"], 1)
        self.refuse_rows(["line 1 2"], 1)
        self.refuse_rows(["rounds 3", "hands 1"], 1)
        self.refuse_rows(["rounds 3"], 1)
        self.refuse_rows(["start me", "send me", "when me", "reckon me", "rounds 3"], 5)

    def test_each_row_twice(self):
        for at, row in enumerate(FOUR_ROWS):
            self.refuse_rows(FOUR_ROWS[:at] + [row] + FOUR_ROWS[at:], at + 1)
            self.refuse_rows(FOUR_ROWS + [row], len(FOUR_ROWS))

    def test_two_rows_changed(self):
        for one, other in itertools.combinations(range(len(FOUR_ROWS)), 2):
            rows = list(FOUR_ROWS)
            rows[one], rows[other] = rows[other], rows[one]
            self.refuse_rows(rows, one + 1)

    def test_another_row_of_the_same_kind(self):
        for row in ("hands 5", "start 1", "send 1", "when 2", "reckon 1", "rounds 4"):
            at = [each.split(" ")[0] for each in FOUR_ROWS].index(row.split(" ")[0])
            self.refuse_rows(FOUR_ROWS[:at + 1] + [row] + FOUR_ROWS[at + 1:], at + 1)

    def test_lines_bridges_and_parents_behind_lesser_ones(self):
        for at, row in ((2, "line 1 4"), (2, "line 1 3"), (2, "line 0 9"), (4, "line 4 8"), (8, "bridge 4 7"),
                        (8, "bridge 4 6"), (8, "bridge 1 9"), (6, "parent 4 9"), (6, "parent 4 1"), (6, "parent 1 99")):
            self.refuse_rows(FOUR_ROWS[:at] + [row] + FOUR_ROWS[at:], at)
        # As numbers, not as texts; and parents by their hands alone.
        rows = ["hands 2 3 10 20", "line 2 10", "line 3 10", "line 10 20", "parent 3 10", "parent 10 2", "parent 20 10"]
        web, way, program, rounds = read_setting("\n".join(rows + FOUR_ROWS[9:]))
        self.assertEqual(way.all_parents(), {2: None, 3: 10, 10: 2, 20: 10})
        rows = ["hands 2 3 10 20", "line 2 3", "line 2 20", "line 10 20", "bridge 2 3", "bridge 2 20", "bridge 10 20"]
        web, way, program, rounds = read_setting("\n".join(rows + FOUR_ROWS[9:]))
        self.assertEqual(way.all_bridges(), [(2, 3), (2, 20), (10, 20)])
        self.refuse_rows(["hands 2 3 10 20", "line 10 20", "line 2 3"], 2)

    def test_forms_of_rows(self):
        for at, rows in (
            (0, ("hands", "hands ", "hands  1", "hands 1 ", " hands 1", "hands 01", "hands -1", "hands 1  4", "hands x",
                 "hands +1", "hands 1.0", "Hands 1", "hand 1", "hands1", "hands 1,4", "hands " + "1" * 21, "hands 1_0",
                 "hands 00", "hands -0")),
            (1, ("line", "line 1", "line 1 4 7", "line 1  4", "line 1 4 ", " line 1 4", "line 01 4", "line 1 -4",
                 "line " + "1" * 21 + " 4", "lines 1 4", "line 1 x", "line (1, 4)", "")),
            (5, ("parent", "parent 4", "parent 4 1 1", "parent 4 None", "parent 4 -1", "parent 04 1", "parent 4 01",
                 "parents 4 1", "parent 4 1 ", "parent 4 " + "9" * 21)),
            (7, ("bridge", "bridge 4", "bridge 4 7 9", "bridge 4  7", "bridge 4 07", "bridges 4 7", "bridge -4 7",
                 "bridge 4 " + "7" * 21)),
            (9, ("start", "start ", "start you", "start me me", "start  me", "start 01", "start add me", "Start me",
                 "start mod me me", "me", "start -0", "start +1")),
            (10, ("send", "send add 1", "sends 1", "send less 1 2 3")),
            (11, ("when", "when 1 1", "when mod 1", "whe 1")),
            (12, ("reckon", "renew 1", "reckon add worth sum 1", "reckon add worth sum ")),
            (13, ("rounds", "rounds ", "rounds -1", "rounds 41", "rounds 03", "rounds 3 3", "rounds x", "rounds 3 ",
                  "round 3", "rounds 100", "rounds " + "9" * 20, "rounds " + "9" * 21, "rounds 00")),
        ):
            for row in rows:
                self.refuse_rows(FOUR_ROWS[:at] + [row] + FOUR_ROWS[at + 1:], at)

    def test_more_rows(self):
        for row in ("", " ", "hands 1", "end"):
            self.refuse_rows(FOUR_ROWS + [row], len(FOUR_ROWS))
        self.refuse_rows([""] + FOUR_ROWS, 0)
        self.refuse_rows(FOUR_ROWS[:5] + [""] + FOUR_ROWS[5:], 5)

    def test_the_edges_of_rounds(self):
        for rounds in (0, 1, 39, 40):
            self.assertEqual(read_setting("\n".join(FOUR_ROWS[:-1] + [f"rounds {rounds}"]))[3], rounds)

    def test_no_web(self):
        for row in ("hands 4 1", "hands 1 1", "hands 100", "hands " + "9" * 20, "hands 1 4 7 9 9",
                    "hands " + " ".join(str(hand) for hand in range(13))):
            self.refuse(NoWeb, read_setting, "\n".join([row] + FEWEST_ROWS[1:]))
        for row in ("line 2 1", "line 1 1", "line 1 3", "line 0 1", "line 1 " + "9" * 20):
            self.refuse(NoWeb, read_setting, "\n".join(["hands 1 2", row] + FEWEST_ROWS[1:]))

    def test_no_program(self):
        deep = "add 1 " * 8 + "1"
        for at, row in ((1, "start worth"), (1, "start to"), (2, "send sum"), (3, "when count"), (4, "reckon to"),
                        (1, "start " + "9" * 21), (1, "start -" + "9" * 5000), (4, "reckon mod 1 0"),
                        (4, "reckon mod 1 -5"), (4, "reckon mod 1 1000000001"), (4, "reckon " + deep)):
            self.refuse(NoProgram, read_setting, "\n".join(FEWEST_ROWS[:at] + [row] + FEWEST_ROWS[at + 1:]))
        edge = FEWEST_ROWS[:1] + ["start " + "9" * 20, "send -" + "9" * 20] + FEWEST_ROWS[3:]
        self.assertEqual(read_setting("\n".join(edge))[2].first_worth(0, 0), 10 ** 20 - 1)

    def test_no_way(self):
        rest = FOUR_ROWS[9:]
        for rows in (
            ["hands 1 2", "line 1 2"], ["hands 1 2", "line 1 2", "parent 2 1", "bridge 1 2"],
            ["hands 1 2", "line 1 2", "parent 1 2", "parent 2 1"], ["hands 1 2", "parent 2 1"],
            ["hands 1 2", "line 1 2", "parent 2 1", "parent 3 1"], ["hands 1 2", "line 1 2", "parent 2 2"],
            ["hands 1 2", "line 1 2", "bridge 2 1"], ["hands 1 2", "bridge 1 2"],
            ["hands 1 2", "line 1 2", "parent 2 3"],
            ["hands 1 2", "line 1 2", "bridge 1 2", "bridge 1 3"], ["hands 1", "parent " + "9" * 20 + " 1"],
        ):
            self.refuse(NoWay, read_setting, "\n".join(rows + rest))

    def test_the_first_that_is_due(self):
        bad_web, bad_way, bad_program = ["hands 2 1", "line 1 2"], ["parent 5 6"], ["start to"]
        web, program = ["hands 1 2"], ["start me"]
        rest = FOUR_ROWS[10:]
        self.refuse(NoWeb, read_setting, "\n".join(bad_web + bad_way + bad_program + rest))
        self.refuse(NoWeb, read_setting, "\n".join(bad_web + bad_program + rest))
        self.refuse(NoWeb, read_setting, "\n".join(bad_web + bad_way + program + rest))
        self.refuse(NoProgram, read_setting, "\n".join(web + bad_way + bad_program + rest))
        self.refuse(NoWay, read_setting, "\n".join(web + bad_way + program + rest))
        self.refuse_rows(bad_web + bad_way + bad_program + rest[:-1] + ["rounds 41"], 7)
        self.refuse_rows(bad_web + bad_way + bad_program + rest[:-1], 7)

    def test_rows_of_chance(self):
        chance = random.Random(32)
        words = [
            "hands", "line", "parent", "bridge", "start", "send", "when", "reckon", "rounds", "0", "1", "2", "4", "7",
            "9", "40", "41", "-1", "01", "me", "worth", "add", "mod", "less", "", "9" * 20, "9" * 21,
        ]
        told = {}
        for trial in range(6000):
            rows = list(chance.choice((FOUR_ROWS, FEWEST_ROWS)))
            for change in range(chance.randint(1, 3)):
                self.change(chance, rows, words)
            text = "\n".join(rows)
            row = wrong_row(text)
            if row is None:
                told[self.read_soundly(text)] = True
            else:
                told[row] = True
                self.refuse_row(text, row)
        # These trials looked at what they are to look at.
        self.assertTrue({"read", NoWeb, NoProgram, NoWay}.union(range(15)) <= set(told), told)

    def change(self, chance, rows, words):
        at = chance.randrange(len(rows))
        what = chance.randrange(5)
        if what == 0:
            rows.insert(chance.randint(0, len(rows)), rows[at])
        elif what == 1 and len(rows) > 1:
            rows.pop(at)
        elif what == 2:
            other = chance.randrange(len(rows))
            rows[at], rows[other] = rows[other], rows[at]
        else:
            row = rows[at].split(" ")
            place = chance.randint(0, len(row))
            row[place:place + chance.randint(0, 1)] = [chance.choice(words)] * chance.randint(0, 1)
            rows[at] = " ".join(row)

    def read_soundly(self, text):
        """Where no row is wrong: what is read is written to the very text, or it is refused with another one."""
        try:
            setting = read_setting(text)
        except (NoWeb, NoProgram, NoWay) as refusal:
            return type(refusal)
        self.assertEqual(setting_text(*setting), text)
        return "read"

    def test_at_the_bounds(self):
        hands = list(range(88, 100))
        web = Web(hands, all_lines(hands))
        program = read_program(
            "start mod add me lines 1000000000\nsend " + "add " * 7 + "worth" + " 99999999999999999999" * 7
            + "\nwhen less me to 1 0\nreckon less sum least most count"
        )
        for make in (by_neighbours, by_tree):
            text = setting_text(web, make(web), program, 40)
            self.assertEqual(setting_text(*read_setting(text)), text)
        row = "reckon " + "less 1 2 3 " * 99 + "4"
        text = setting_text(web, by_tree(web), program, 40)
        self.refuse(NoProgram, read_setting, re.sub("reckon .*", row, text))


class Logs(Refusing):
    def refuse_deed(self, deeds, at, setting=(TWO, by_tree(TWO), GATHER, 2)):
        self.refuse(NoDeed, replay, *setting, deeds, told={"at": at})

    def test_deeds_in_order(self):
        path = path_web([1, 2, 3])
        setting = (path, by_neighbours(path), GATHER, 2)
        deeds = [("carry", 2), ("fall", 3), ("carry", 0), ("cut", 2, 1), ("carry", 3), ("carry", 0)]
        hall = Hall(*setting)
        self.assertEqual(stand_of(replay(*setting, [])), stand_of(hall))
        for many, deed in enumerate(deeds, start=1):
            {"carry": hall.carry, "fall": hall.fall, "cut": hall.cut}[deed[0]](*deed[1:])
            told = replay(*setting, deeds[:many])
            self.assertIsInstance(told, Hall)
            self.assertEqual(stand_of(told), stand_of(hall))
        self.assertIs(told.web_now(), path)
        self.assertIs(told.way_now(), setting[1])
        # What fell has fallen: 3, and the line between 1 and 2.
        self.refuse(Fallen, told.fall, 3)
        self.refuse(Fallen, told.cut, 1, 2)

    def test_whole_runs(self):
        for web, way, program, rounds, chance in some_settings(33):
            setting = (web, way, program, rounds)
            fall = ("fall", web.hands()[0])
            hall = Hall(*setting)
            deeds = []
            while hall.road():
                if chance.randrange(200) == 0 and fall not in deeds:
                    deeds.append(fall)
                    hall.fall(fall[1])
                deeds.append(("carry", chance.randrange(len(hall.road()))))
                hall.carry(deeds[-1][1])
            self.assertEqual(stand_of(replay(*setting, deeds)), stand_of(hall))
            self.refuse_deed(deeds + [("carry", 0)], len(deeds), setting)

    def test_five_thousand_deeds(self):
        web = Web(list(range(12)), all_lines(range(12)))
        setting = (web, by_neighbours(web), GATHER, 40)
        hall = replay(*setting, [("carry", 0)] * 5000)
        self.assertEqual(sum(hall.sent(kind, turn) for kind in ("word", "got", "beside") for turn in range(41)),
                         5000 + len(hall.road()))
        self.refuse_deed([("carry", 0)] * 4999 + [("carry", -1)], 4999, setting)

    def test_the_first_that_is_refused(self):
        carry = ("carry", 0)
        self.refuse_deed([("carry", 2)], 0)
        self.refuse_deed([carry, ("carry", 2)], 1)
        self.refuse_deed([carry, ("carry", -1), ("carry", 9)], 1)
        self.refuse_deed([("fall", 1), carry, ("fall", 1)], 2)
        self.refuse_deed([("fall", 3)], 0)
        self.refuse_deed([("cut", 1, 2), ("cut", 2, 1)], 1)
        self.refuse_deed([carry, carry, ("cut", 1, 3)], 2)
        self.refuse_deed([carry, ("cut", 1, 1), None], 1)

    def test_what_is_no_deed(self):
        for deed in ANYTHING + [
            ("carry",), ("carry", 0, 0), ["carry", 0], ("fall",), ("fall", 1, 2), ("cut", 1), ("cut", (1, 2)),
            ("cut", 1, 2, 3), ("mend", TWO, by_tree(TWO)), ("mend", TWO), ("Carry", 0), ("carry 0",), "carry", ("", 0),
            (None, 0), (("carry",), 0), ("done",), ("carry", "0"), ("carry", 0.0), ("carry", False), ("fall", True),
            ("cut", True, 2), ("cut", 1, 2.0), [("carry", 0)], (("carry", 0),), {"carry": 0}, ("road",), (b"carry", 0),
        ]:
            self.refuse_deed([deed], 0)
            self.refuse_deed([("carry", 0), deed, ("carry", 0)], 1)
        for value in NO_WHOLES:
            self.refuse_deed([("carry", value)], 0)
            self.refuse_deed([("fall", value)], 0)
            self.refuse_deed([("cut", value, 2)], 0)
            self.refuse_deed([("cut", 1, value)], 0)

    def test_no_way_first(self):
        for web, way in unlet_ways():
            for deeds in ([], [("carry", 0)], [None], [("carry", 99)]):
                self.refuse(NoWay, replay, web, way, GATHER, 2, deeds)

    def test_nothing_is_kept_or_changed(self):
        deeds = [("carry", 0), ("cut", 1, 2)]
        ahead = copy.deepcopy(deeds)
        one = replay(TWO, by_tree(TWO), GATHER, 2, deeds)
        self.assertEqual(deeds, ahead)
        deeds.clear()
        one.carry(0)
        other = replay(TWO, by_tree(TWO), GATHER, 2, ahead)
        self.assertEqual((len(one.road()), len(other.road())), (1, 2))

    def test_by_names_of_arguments(self):
        hall = replay(deeds=[("carry", 0)], rounds=2, program=GATHER, way=by_tree(TWO), web=TWO)
        self.assertEqual(hall.road(), [("word", 2, 1, 1, 2), ("got", 2, 1, 1, None)])


if __name__ == "__main__":
    unittest.main()

"""[20]: the console; each command beside the functions of the other modules."""

import inspect
import random
import unittest

from hoursmeant.cases import cases
from hoursmeant.console import Console
from hoursmeant.errors import (
    Crowded, HourError, InvalidCommand, InvalidOffset, InvalidZones, NothingToUndo, Refused, Seen,
)
from hoursmeant.programs import kinds, run
from hoursmeant.questions import differences, keeps
from hoursmeant.sightings import Sightings
from hoursmeant.words import write_program, write_wish
from tests.helpers import ODD_VALUES, nested, odd_at_each_depth, programs_of, times_of

ZONE = ((0, 60), 100)
ONE = (ZONE,)
TWO = (ZONE, ((-30, 30), 200))
THERE_AND_BACK = "read 0 0 then find 1 0 early refuse"
RULES = [("early", "behind"), ("late", "refuse"), ("refuse", "ahead")]


def after(*commands, zones=TWO):
    """A console that has executed the commands."""
    console = Console(zones)
    for command in commands:
        console.execute(command)
    return console


def told(function, *arguments):
    """What a call returns, or its error with what that keeps."""
    try:
        return function(*arguments)
    except HourError as error:
        return type(error), vars(error)


def row(numbers):
    return " ".join(str(number) for number in numbers)


class TestByHand(unittest.TestCase):
    def test_see(self):
        console = Console(TWO)
        self.assertEqual(console.execute("see 0 0 0"), "new")
        self.assertEqual(console.execute("see 0 50 60"), "new")
        self.assertEqual(console.execute("see 0 50 60"), "known")
        self.assertEqual(console.execute("see 1 50 -30"), "new")
        self.assertEqual(console.execute("looks 0"), "0:0 50:60")
        self.assertEqual(console.execute("looks 1"), "50:-30")

    def test_errors_of_see(self):
        console = after("see 0 0 0", "see 0 50 60", "see 0 101 0")
        with self.assertRaises(Seen) as seen:
            console.execute("see 0 50 0")
        self.assertEqual(seen.exception.offset, 60)
        with self.assertRaises(Crowded) as crowded:
            console.execute("see 0 100 0")
        self.assertEqual((crowded.exception.first, crowded.exception.last), (0, 100))
        for command in ("see 0 7 30", "see 1 7 60", "see 0 50 -60", "see 0 50 999999999999", "try see 0 7 30"):
            self.assertRaises(InvalidOffset, console.execute, command)
        self.assertEqual(console.execute("looks 0"), "0:0 50:60 101:0")

    def test_options(self):
        console = after("see 0 0 0", "see 0 50 60", "see 0 101 0")
        for command, expected in (
            ("options 0 200", "0"), ("options 0 201", "0 60"), ("options 0 50", "60"), ("options 1 50", "-30 30"),
            ("options 0 -99", "0"), ("options 0 -100", "0 60"), ("options 0 -999999999999", "0 60"),
        ):
            self.assertEqual(console.execute(command), expected)

    def test_looks(self):
        console = after("see 0 101 0", "see 0 -5 0", "see 1 999999999999 30", "see 1 -999999999999 -30")
        self.assertEqual(console.execute("looks 0"), "-5:0 101:0")
        self.assertEqual(console.execute("looks 1"), "-999999999999:-30 999999999999:30")
        self.assertEqual(Console(ONE).execute("looks 0"), "-")

    def test_undo(self):
        console = after("see 0 101 0", "see 0 -5 0", "see 1 7 30")
        self.assertEqual(console.execute("undo 0"), "-5")
        self.assertEqual(console.execute("undo 0"), "101")
        self.assertRaises(NothingToUndo, console.execute, "undo 0")
        self.assertEqual(console.execute("undo 1"), "7")
        self.assertEqual(console.execute("looks 1"), "-")

    def test_cases(self):
        console = Console(TWO)
        self.assertEqual(console.execute("cases -"), "1")
        self.assertEqual(console.execute("cases " + THERE_AND_BACK), "4")
        self.assertEqual(console.execute("cases offset 0 0 then offset 0 1"), "4")

    def test_keeps(self):
        console = Console(TWO)
        for wish, answer in (
            ("found", "yes"), ("same 0 2", "no"), ("order 2 0", "yes"), ("order 0 2", "no"), ("near 0 2 60", "yes"),
            ("near 0 2 59", "no"),
        ):
            self.assertEqual(console.execute(f"keeps {wish} of {THERE_AND_BACK}"), answer)
        self.assertEqual(console.execute("keeps found of -"), "yes")
        self.assertEqual(console.execute("keeps same 0 0 of -"), "yes")

    def test_differences(self):
        console = Console(TWO)
        self.assertEqual(console.execute("differences 0 2 of " + THERE_AND_BACK), "-60 0")
        self.assertEqual(console.execute("differences 2 0 of " + THERE_AND_BACK), "0 60")
        self.assertEqual(console.execute("differences 0 0 of -"), "0")

    def test_run_in_the_early_tables_of_the_sightings(self):
        console = Console(TWO)
        self.assertEqual(console.execute("run 5 -"), "5")
        self.assertEqual(console.execute("run 570 " + THERE_AND_BACK), "570 570 570")
        console.execute("see 0 500 60")
        self.assertEqual(console.execute("run 570 " + THERE_AND_BACK), "570 630 570")
        console.execute("see 0 599 60")
        console.execute("see 0 600 0")
        self.assertEqual(console.execute("run 600 " + THERE_AND_BACK), "600 600 540")
        self.assertEqual(console.execute("run 630 read 0 0 then find 1 0 late refuse"), "630 630 630")
        self.assertEqual(console.execute("run 630 read 0 0 then find 1 0 refuse refuse"), "refused 1")
        self.assertEqual(console.execute("run 630 add 0 1 then read 0 0 then find 2 0 refuse ahead"), "refused 2")
        self.assertEqual(console.execute("run -5 offset 0 0 then plus 0 1 then read 0 1"), "-5 60 55 -35")
        self.assertEqual(console.execute("run 999999999999 read 0 0"), "999999999999 999999999999")

    def test_run_with_an_edition(self):
        # The later table is the first one again, so the world always suits.
        console = after("see 0 599 60", "see 0 600 0")
        self.assertEqual(console.execute("run 630 edition 0 0 then read 0 0 then find 2 0 early ahead"), "630 630 630 570")

    def test_run_takes_any_program(self):
        console = after("see 0 599 60", "see 0 600 0")
        program = " then ".join(["read 0 0", "find 1 0 late ahead", "read 2 0", "find 3 0 late ahead"] + ["read 4 0"] * 4)
        self.assertEqual(console.execute("run 570 " + program), "570 630 630 630 630 630 630 630 630")

    def test_try(self):
        console = after("see 0 0 0")
        self.assertEqual(console.execute("try see 0 50 60"), "new")
        self.assertEqual(console.execute("try see 0 0 0"), "known")
        self.assertEqual(console.execute("looks 0"), "0:0")
        self.assertEqual(console.execute("try looks 0"), "0:0")
        self.assertEqual(console.execute("try try options 0 50"), "0 60")
        self.assertEqual(console.execute("try run 5 read 0 0"), "5 5")
        self.assertEqual(console.execute("try cases " + THERE_AND_BACK), "4")
        self.assertEqual(console.execute("try keeps found of -"), "yes")
        self.assertEqual(console.execute("try differences 0 0 of -"), "0")
        self.assertEqual(console.execute("undo 0"), "0")
        self.assertRaises(NothingToUndo, console.execute, "undo 0")

    def test_undo_in_try_takes_back_only_what_was_done_inside(self):
        console = after("see 0 0 0", "see 1 0 30")
        for tries in range(1, 9):
            for place in (0, 1):
                self.assertRaises(NothingToUndo, console.execute, "try " * tries + f"undo {place}")
        self.assertEqual(console.execute("looks 0"), "0:0")
        self.assertEqual(console.execute("undo 1"), "0")
        self.assertEqual(console.execute("undo 0"), "0")

    def test_number_of_tries(self):
        console = Console(ONE)
        for tries in range(9):
            self.assertEqual(console.execute("try " * tries + "see 0 5 60"), "new")
            if tries == 0:
                console.execute("undo 0")
        for tries in range(9, 12):
            self.assertRaises(InvalidCommand, console.execute, "try " * tries + "see 0 5 60")
        self.assertEqual(console.execute("looks 0"), "-")

    def test_errors_in_try_change_nothing(self):
        console = after("see 0 0 0", "see 0 50 60", "see 0 101 0")
        for tries in range(1, 9):
            for command, error in (
                ("see 0 0 60", Seen), ("see 0 100 0", Crowded), ("see 0 7 7", InvalidOffset), ("undo 1", NothingToUndo),
            ):
                self.assertRaises(error, console.execute, "try " * tries + command)
        # No block is left.
        self.assertEqual([console.execute("undo 0") for _ in range(3)], ["101", "50", "0"])

    def test_command_in_try_is_looked_at_ahead(self):
        console = after("see 0 0 0")
        for command in ("try", "try ", "try try", "try x", "try see 0 0", "try see 2 0 0", "try try undo", "try  looks 0"):
            self.assertRaises(InvalidCommand, console.execute, command)
        self.assertEqual(console.execute("undo 0"), "0")

    def test_two_by_turns(self):
        one, other = Console(TWO), Console(TWO)
        self.assertEqual(one.execute("see 0 0 0"), "new")
        self.assertEqual(other.execute("see 0 0 60"), "new")
        self.assertEqual(one.execute("try see 0 50 60"), "new")
        self.assertEqual((one.execute("looks 0"), other.execute("looks 0")), ("0:0", "0:60"))
        self.assertEqual((one.execute("run 0 read 0 0"), other.execute("run 0 read 0 0")), ("0 0", "0 60"))
        self.assertEqual(other.execute("undo 0"), "0")
        self.assertEqual((one.execute("looks 0"), other.execute("looks 0")), ("0:0", "-"))

    def test_places_do_not_share(self):
        console = Console((ZONE, ZONE))
        console.execute("see 0 0 60")
        self.assertEqual(console.execute("looks 1"), "-")
        self.assertEqual(console.execute("run 0 read 0 0 then read 0 1"), "0 60 0")


class TestInvalid(unittest.TestCase):
    def refused(self, console, *commands):
        for command in commands:
            with self.subTest(command=command):
                with self.assertRaises(InvalidCommand) as caught:
                    console.execute(command)
                self.assertIs(type(caught.exception), InvalidCommand)

    def test_other_kinds(self):
        console = after("see 0 0 0")
        self.refused(console, *[odd for odd in ODD_VALUES if not isinstance(odd, str)], 0, b"looks 0", 10 ** 30)
        self.refused(console, ("looks", 0), ["looks", "0"], ("looks 0",), nested(30), console, Sightings(ZONE), Console)
        self.assertEqual(console.execute("looks 0"), "0:0")

    def test_strings_that_are_no_commands(self):
        self.refused(
            Console(TWO), "", " ", "-", "x", "look 0", "Looks 0", "looks", "looks ", "looks  0", " looks 0", "looks 0 ",
            "looks 0\n", "looks 2", "looks -1", "looks 00", "looks -0", "looks 0 0", "looks a", "drop 0 0", "table 0", "begin",
            "finish", "then", "of", "see", "see 0", "see 0 0", "see 0 0 0 0", "see 2 0 0", "see 0 x 0", "see 0 0 x", "see 0 07 0",
            "see 0 0 -0", "see 0 +1 0", "see 0 1.0 0", "see 0  0", "see 00 0 0", "see x 0 0", "options", "options 0", "options 0 x",
            "options 2 0", "options 0 0 0", "options 0 007", "undo", "undo 2", "undo 0 0", "undo -", "x" * 4000, "try" * 1000,
            "try " * 900 + "looks 0", "looks " + "0" * 3000, "see 0 " + "1" * 3000 + " 0",
        )

    def test_twelve_digits(self):
        console = Console(ONE)
        for number in ("1000000000000", "-1000000000000", "9" * 13, "9" * 31, "0" * 13):
            self.refused(
                console, f"see 0 {number} 0", f"see 0 0 {number}", f"options 0 {number}", f"run {number} -",
                f"try options 0 {number}", f"run 0 add 0 {number}", f"keeps near 0 0 {number} of -",
                f"differences 0 {number} of -",
            )
        for number in ("999999999999", "-999999999999"):
            self.assertEqual(console.execute(f"run {number} -"), number)
            self.assertEqual(console.execute(f"options 0 {number}"), "0 60")
            self.assertRaises(InvalidOffset, console.execute, f"see 0 0 {number}")

    def test_programs_and_wishes(self):
        self.refused(
            Console(ONE), "cases", "cases ", "cases x", "cases - -", "cases read 0 1", "cases read 0 0 then", "cases find 0 0",
            "cases find 0 0 early ahead", "cases  -", "cases found", "run", "run ", "run -", "run 0", "run 0 ", "run 0 x",
            "run x -", "run 00 -", "run -0 -", "run 0 - -", "run 0 0 -", "run 0 read 0 1", "keeps", "keeps of", "keeps of -",
            "keeps  of -", "keeps found", "keeps found of", "keeps found of ", "keeps found -", "keeps found of of -",
            "keeps found of - of", "keeps found of - of -", "keeps found found of -", "keeps same 0 1 of -", "keeps same 0 of -",
            "keeps same 0 0 0 of -", "keeps near 0 0 of -", "keeps near 0 0 -1 of -", "keeps near 0 0 1000001 of -",
            "keeps same 0 1 of offset 0 0", "keeps order 1 0 of offset 0 0", "keeps found  of -", "keeps found of  -",
            "differences", "differences of -", "differences 0 of -", "differences 0 0 0 of -", "differences 0 1 of -",
            "differences 0 0 of", "differences 0 0 -", "differences 0 00 of -", "differences 0 -1 of -", "differences -0 0 of -",
            "differences 0 1 of offset 0 0", "differences 1 0 of offset 0 0", "differences x 0 of -", "differences 0 0 of - ",
            "differences 0  of -", "differences found of -", "of 0 0 of -", "found of -",
        )

    def test_edition_twice_and_nine_steps(self):
        console = Console(ONE)
        eight = " then ".join(["add 0 1"] * 8)
        self.assertEqual(console.execute("run 0 " + eight), "0" + " 1" * 8)
        self.assertEqual(console.execute("cases " + eight), "1")
        self.refused(console, f"run 0 {eight} then add 0 1", "cases edition 0 0 then edition 0 0")

    def test_nothing_is_changed(self):
        console = after("see 0 0 0", "see 1 0 30")
        for command in ("see 0 0", "see 0 5 5 5", "try see 0 5", "undo", "undo 3", "try undo 7", "see 0 5 07"):
            self.refused(console, command)
        self.assertEqual([console.execute(f"looks {place}") for place in (0, 1)], ["0:0", "0:30"])
        self.assertEqual([console.execute(f"undo {place}") for place in (0, 1)], ["0", "0"])


class TestArguments(unittest.TestCase):
    def test_names(self):
        self.assertEqual(list(inspect.signature(Console).parameters), ["zones"])
        self.assertEqual(list(inspect.signature(Console.execute).parameters)[1:], ["command"])
        console = Console(zones=ONE)
        self.assertEqual(console.execute(command="see 0 5 60"), "new")
        self.assertEqual(console.execute("looks 0"), "5:60")

    def test_wrong_zones(self):
        for odd in (*ODD_VALUES, (), 0, ZONE, [ZONE], (ZONE, ZONE, ZONE), (ZONE, None), *odd_at_each_depth(TWO)):
            self.assertRaises(InvalidZones, Console, odd)

    def test_strings_are_returned(self):
        console = after("see 0 5 60")
        for command in (
            "see 0 5 60", "options 0 5", "looks 0", "looks 1", "cases -", "keeps found of -", "differences 0 0 of -", "run 0 -",
            "run 5 " + THERE_AND_BACK, "try looks 1", "undo 0",
        ):
            result = console.execute(command)
            self.assertIs(type(result), str)
            self.assertEqual(result, " ".join(result.split()))


class TestBesideTheFunctions(unittest.TestCase):
    def test_commands_about_programs(self):
        for zones in (ONE, TWO):
            console = after("see 0 -30 60", "see 0 31 0", zones=zones)
            tables = ((60, ((-29, 0),)), (-30, ()))[:len(zones)]
            for length, stride in ((1, 1), (2, 7), (3, 101)):
                for program in programs_of(zones, length, (-60, 7), RULES)[::stride]:
                    self.compare(zones, console, program, (tables, tables))
            self.assertEqual(console.execute("looks 0"), "-30:60 31:0")

    def compare(self, zones, console, program, world):
        text = write_program(zones, program)
        self.assertEqual(console.execute("cases " + text), str(len(cases(zones, program))))
        for start in (0, -40, 15):
            try:
                expected = row(run(zones, program, world, start))
            except Refused as refused:
                expected = f"refused {refused.step}"
            self.assertEqual(console.execute(f"run {start} {text}"), expected)
        times = times_of(program)
        for i in range(len(program) + 1):
            for j in range(len(program) + 1):
                if i in times and j in times:
                    expected = row(differences(zones, program, i, j))
                    self.assertEqual(console.execute(f"differences {i} {j} of {text}"), expected)
                else:
                    self.assertRaises(InvalidCommand, console.execute, f"differences {i} {j} of {text}")
        for wish in (("found",), ("same", 0, times[-1]), ("order", times[-1], 0), ("near", 0, times[-1], 60)):
            expected = "yes" if keeps(zones, program, wish) else "no"
            command = f"keeps {write_wish(zones, program, wish)} of {text}"
            self.assertEqual(console.execute(command), expected)
            self.assertEqual(console.execute("try " + command), expected)

    def test_drawn_commands_to_two_consoles_by_turns(self):
        counts = {}
        for seed in range(12):
            draw = random.Random(seed)
            zones = (TWO, ONE, (ZONE, ((-1, 0, 1), 3)))[seed % 3]
            pairs = [(Console(zones), [Sightings(zone) for zone in zones]) for _ in range(2)]
            for _ in range(250):
                console, beside = pairs[draw.randrange(2)]
                key = self.do(draw, zones, console, beside)
                counts[key] = counts.get(key, 0) + 1
                for one, sightings in pairs:
                    for place, seen in enumerate(sightings):
                        expected = " ".join(f"{moment}:{offset}" for moment, offset in seen.looks) or "-"
                        self.assertEqual(one.execute(f"looks {place}"), expected)
        for key in (
            ("see", "new"), ("see", "known"), ("see", Seen), ("see", Crowded), ("see", InvalidOffset), ("undo", str),
            ("undo", NothingToUndo), ("try", "new"), ("try", "known"), ("try", Seen), ("try", Crowded), ("try", InvalidOffset),
            ("try", NothingToUndo), ("options", str), ("run", str), ("run", "refused"),
        ):
            self.assertGreater(counts[key], 10, key)

    def do(self, draw, zones, console, beside):
        place, tries = draw.randrange(len(zones)), draw.choice((0, 0, 0, 1, 2, 8))
        moment = draw.choice((draw.randrange(-3, 4), draw.randrange(-300, 300)))
        word = draw.choice(("see", "see", "see", "undo", "options", "run"))
        used = [seen.twin() for seen in beside] if tries else beside
        for seen in used:
            if tries:
                seen.begin()
        if word == "see":
            offset = draw.choice((*zones[place][0] * 3, 7))
            command = f"see {place} {moment} {offset}"
            expected = told(used[place].see, moment, offset)
            expected = {True: "new", False: "known"}[expected] if isinstance(expected, bool) else expected
        elif word == "undo":
            command = f"undo {place}"
            expected = told(used[place].undo)
        elif word == "options":
            command = f"options {place} {moment}"
            expected = row(used[place].options(moment))
        else:
            program = (("read", 0, place), ("add", 1, draw.choice((0, 1, 60))), ("find", 2, 0, *draw.choice(RULES)))
            command = f"run {moment} {write_program(zones, program)}"
            tables = tuple(seen.table() for seen in used)
            expected = told(run, zones, program, (tables, tables), moment)
            if isinstance(expected, list):
                expected = row(expected)
            else:
                expected = f"refused {expected[1]['step']}"
        expected = str(expected) if isinstance(expected, int) else expected
        self.assertEqual(told(console.execute, "try " * tries + command), expected)
        name = "try" if tries else word
        if isinstance(expected, tuple):
            return name, expected[0]
        if expected in ("new", "known"):
            return name, expected
        return name, "refused" if expected.startswith("refused") else str

    def test_equal_calls_have_equal_results(self):
        self.assertEqual(kinds(ONE, ()), ["moment"])
        for command in ("looks 0", "options 0 7", "cases " + THERE_AND_BACK, "run 7 " + THERE_AND_BACK):
            console = after("see 0 5 60", "see 0 90 0")
            self.assertEqual(console.execute(command), console.execute(command))
            self.assertEqual(console.execute(command), after("see 0 90 0", "see 0 5 60").execute(command))

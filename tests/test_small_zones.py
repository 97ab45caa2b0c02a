"""[8], [9], [10], [15], [16]: what the package says of many small programs, against all tables.

For each program every world is tried whose tables jump between the first and the last moment
that a run from 0 can look at. Jumps elsewhere show nothing to it, and a table keeps its
spacing if they are taken away.
"""

import unittest

from hoursmeant.cases import cases, looks_of, worlds
from hoursmeant.errors import Refused, Unsuited
from hoursmeant.programs import is_program, is_world, kinds, run
from hoursmeant.questions import breaking, differences, keeps, refusals, witness
from tests.helpers import (
    moved, programs_of, slow_breaks, slow_cases, slow_early_world, slow_kinds, slow_run, slow_worlds, times_of,
)

ALL_RULES = [(fold, gap) for fold in ("early", "late", "refuse") for gap in ("ahead", "behind", "refuse")]
FEW_RULES = [("early", "behind"), ("late", "ahead"), ("refuse", "refuse")]
NEAR = ((0, 1), 2)
WIDE = ((-1, 1), 3)
LONG = ((0, 2), 5)
# Zones, number of steps, minutes to add, pairs of rules, and each how manieth program is taken.
SAMPLES = (
    ((NEAR,), 0, (), ALL_RULES, 1), ((NEAR,), 1, (-2, 1), ALL_RULES, 1), ((NEAR,), 2, (-2, 1), ALL_RULES, 1),
    ((NEAR,), 3, (-2, 1), ALL_RULES, 3), ((WIDE,), 3, (1, 2), ALL_RULES, 11), ((LONG,), 3, (-1, 3), ALL_RULES, 11),
    ((NEAR,), 4, (-2, 1), ALL_RULES, 149), ((LONG,), 4, (-1, 2), FEW_RULES, 47),
    ((NEAR,), 5, (1,), FEW_RULES, 941), ((WIDE,), 5, (1,), FEW_RULES, 1999),
    ((((-1, 0, 1), 3),), 3, (1,), ALL_RULES, 13), ((NEAR, WIDE), 3, (1,), FEW_RULES, 23),
    ((NEAR, WIDE), 4, (2,), FEW_RULES, 997), ((((2,), 1), LONG), 3, (1,), FEW_RULES, 29),
)
# Finds and looks ahead of an edition and behind it, which few of the programs above have.
CHOSEN = (
    (("read", 0, 0), ("edition", 0, 0), ("find", 1, 0, "early", "ahead"), ("read", 3, 0)),
    (("read", 0, 0), ("edition", 0, 0), ("find", 1, 0, "refuse", "refuse"), ("offset", 0, 0)),
    (("edition", 0, 0), ("read", 0, 0), ("find", 2, 0, "late", "behind"), ("offset", 3, 0)),
    (("read", 0, 0), ("add", 0, -1), ("edition", 2, 0), ("find", 1, 0, "late", "ahead"), ("read", 0, 0)),
    (("add", 0, 1), ("read", 1, 0), ("edition", 0, 0), ("read", 1, 0), ("find", 4, 0, "early", "refuse")),
    (("add", 0, 2), ("offset", 1, 0), ("edition", 0, 0), ("add", 0, -3), ("offset", 4, 0), ("offset", 1, 0)),
    (("read", 0, 0), ("find", 1, 0, "refuse", "ahead"), ("edition", 2, 0), ("find", 1, 0, "early", "refuse")),
)


def sampled():
    """Pairs of zones and a program."""
    for zones, length, minutes, rules, stride in SAMPLES:
        for program in programs_of(zones, length, minutes, rules)[::stride]:
            yield zones, program
    for zone in (NEAR, WIDE, LONG):
        for program in CHOSEN:
            yield (zone,), program


# The slow cases are needed by each test, and take most of the time.
ALL = [(zones, program, slow_cases(zones, program)) for zones, program in sampled()]


class TestSmallZones(unittest.TestCase):
    def test_samples_are_many_and_of_all_sorts(self):
        self.assertGreater(len(ALL), 1000)
        words = {step[0] for _, program, _ in ALL for step in program}
        self.assertEqual(words, {"read", "find", "offset", "edition", "plus", "less", "add"})
        found = [case for _, _, slow in ALL for case in slow]
        self.assertTrue(any(look[1] == 1 for looked, _, _ in found for look in looked))
        self.assertTrue(any(refused is not None for _, _, refused in found))
        for zones, program, _ in ALL:
            self.assertIs(is_program(zones, program), True)
            self.assertEqual(kinds(zones, program), slow_kinds(program))

    def test_cases(self):
        for zones, program, slow in ALL:
            self.assertEqual(cases(zones, program), slow, (zones, program))

    def test_worlds_and_what_is_looked_at(self):
        for zones, program, slow in ALL:
            early = [slow_early_world(zones, program, case) for case in slow]
            self.assertEqual(list(worlds(zones, program)), early, (zones, program))
            for place in range(len(zones)):
                moments = sorted({look[2] for looked, _, _ in slow for look in looked if look[0] == place})
                self.assertEqual(looks_of(zones, program, place), moments, (zones, program))

    def test_runs_in_the_early_worlds_from_any_start(self):
        # F4: they suit, and the run comes to the case.
        for zones, program, slow in ALL:
            known = slow_kinds(program)
            for (_, less, refused), world in zip(slow, worlds(zones, program)):
                self.assertIs(is_world(zones, world), True)
                for start in (0, 17, -10 ** 9):
                    values = [value + start * (kind != "span") for value, kind in zip(less, known)]
                    if refused is None:
                        self.assertEqual(run(zones, program, moved(world, start), start), values)
                        continue
                    with self.assertRaises(Refused) as caught:
                        run(zones, program, moved(world, start), start)
                    self.assertEqual(caught.exception.step, refused)

    def test_differences_and_witnesses(self):
        for zones, program, slow in ALL[::2]:
            times = times_of(program)
            for first in times:
                for second in times:
                    ends = [(case, case[1][second] - case[1][first]) for case in slow if case[2] is None]
                    numbers = sorted({number for _, number in ends})
                    self.assertEqual(differences(zones, program, first, second), numbers, (zones, program))
                    for number in (*numbers, 999):
                        of_it = [slow_early_world(zones, program, case) for case, one in ends if one == number]
                        expected = of_it[0] if of_it else None
                        self.assertEqual(witness(zones, program, first, second, number), expected)

    def test_refusals(self):
        for zones, program, slow in ALL:
            steps = sorted({refused for _, _, refused in slow} - {None})
            self.assertEqual(refusals(zones, program), steps, (zones, program))

    def test_wishes(self):
        for zones, program, slow in ALL[::2]:
            times = times_of(program)
            wishes = [("found",)]
            for i in times:
                for j in times:
                    wishes += [("same", i, j), ("order", i, j), ("near", i, j, 0), ("near", i, j, 1), ("near", i, j, 2)]
            for wish in wishes:
                broken = [case for case in slow if slow_breaks(case, wish)]
                expected = slow_early_world(zones, program, broken[0]) if broken else None
                self.assertEqual(breaking(zones, program, wish), expected, (zones, program, wish))
                self.assertIs(keeps(zones, program, wish), not broken)


class TestRuns(unittest.TestCase):
    def test_each_run_in_each_world(self):
        # The early worlds are the least of them; here are those that do not suit, too.
        for zones, program, _ in ALL[::17]:
            known = slow_kinds(program)
            for world in slow_worlds(zones, program):
                for start in (0, 3):
                    told = slow_run(zones, program, moved(world, start), start)
                    self.compare(zones, program, moved(world, start), start, told, known)

    def compare(self, zones, program, world, start, told, known):
        if told is None:
            self.assertRaises(Unsuited, run, zones, program, world, start)
        elif told[2] is not None:
            self.assertRaises(Refused, run, zones, program, world, start)
        else:
            values = [value + start * (kind != "span") for value, kind in zip(told[1], known)]
            self.assertEqual(run(zones, program, world, start), values)


class TestFacts(unittest.TestCase):
    def test_greater_spacing_keeps_what_a_smaller_one_keeps(self):
        # F5: each case with the greater spacing is one with the smaller one.
        for (offsets, spacing), program in [(zones[0], program) for zones, program, _ in ALL[::7] if len(zones) == 1]:
            near = cases(((offsets, spacing),), program)
            for case in cases(((offsets, spacing + 2),), program):
                self.assertIn(case, near)

    def test_read_and_found_again(self):
        # F6, the first and the second sentence.
        for zone in (NEAR, WIDE, LONG, ((0, 60), 100), ((-30, 0, 60), 91)):
            for fold in ("early", "late", "refuse"):
                program = (("read", 0, 0), ("find", 1, 0, fold, "refuse"), ("read", 2, 0))
                self.assertEqual(refusals((zone,), program), [1] if fold == "refuse" else [])
                self.assertIs(keeps((zone,), program, ("same", 1, 3)), True)
                numbers = differences((zone,), program, 0, 2)
                apart = {one - other for one in zone[0] for other in zone[0]}
                kept = {"early": lambda n: n <= 0, "late": lambda n: n >= 0, "refuse": lambda n: n == 0}[fold]
                self.assertEqual(numbers, sorted(number for number in apart if kept(number)))

    def test_reading_less_the_offset_that_held(self):
        # F6, the third sentence.
        program = (("read", 0, 0), ("edition", 0, 0), ("offset", 0, 0), ("read", 0, 0), ("less", 4, 3), ("less", 1, 3))
        self.assertIs(keeps((LONG,), program, ("same", 0, 5)), True)
        self.assertIs(keeps((LONG,), program, ("same", 0, 6)), False)
        program = (("add", 0, 1), ("offset", 0, 0), ("edition", 1, 0), ("read", 0, 0), ("less", 4, 2))
        self.assertIs(keeps((LONG,), program, ("same", 0, 5)), True)

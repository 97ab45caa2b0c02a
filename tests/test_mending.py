"""[17]: rules that keep a wish, the least spacing, programs that are alike, by hand and by all tables."""

import unittest
from itertools import product

from hoursmeant.cases import worlds
from hoursmeant.errors import (
    InvalidPlace, InvalidProgram, InvalidWish, InvalidZones, Refused,
)
from hoursmeant.mending import alike, least_spacing, parting, rules_that_keep
from hoursmeant.programs import is_world, run
from hoursmeant.questions import breaking, keeps
from hoursmeant.spacing import early_table
from tests.helpers import (
    ODD_VALUES, moved, programs_of, slow_bounds, slow_breaks, slow_cases, slow_early, slow_kinds, slow_pairs,
    times_of,
)

FOLDS = ("early", "late", "refuse")
GAPS = ("ahead", "behind", "refuse")
PAIRS = [(fold, gap) for fold in FOLDS for gap in GAPS]
ZONE = ((0, 60), 100)
ONE = (ZONE,)
TWO = (ZONE, ((-30, 30), 200))
NEAR = ((0, 1), 2)
WIDE = ((-1, 1), 3)
LONG = ((0, 2), 5)
THREE = ((-1, 0, 1), 3)
THERE_AND_BACK = (("read", 0, 0), ("find", 1, 0, "early", "ahead"))
LATER = (("read", 0, 0), ("add", 1, 60), ("find", 2, 0, "early", "ahead"))
TWICE = (("read", 0, 0), ("find", 1, 0, "early", "ahead"), ("read", 2, 0), ("find", 3, 0, "late", "behind"))


def with_rules(program, rules):
    """The program with these rules in the place of its own."""
    left = list(rules)
    return tuple(step[:3] + left.pop(0) if step[0] == "find" else step for step in program)


def finds_of(program):
    return [step[0] for step in program].count("find")


def wishes_of(program, farthest=2):
    """Wishes of each word about each two values of the program."""
    yield ("found",)
    for i in times_of(program):
        for j in times_of(program):
            yield from (("same", i, j), ("order", i, j))
            yield from (("near", i, j, most) for most in range(farthest + 1))


def unchanged(*tables):
    """A world of these tables, each first and later."""
    return tables, tables


def end_of(zones, program, world, start=0):
    """The last value of a run, None if it is refused."""
    try:
        return run(zones, program, world, start)[-1]
    except Refused:
        return None


class TestRulesByHand(unittest.TestCase):
    def test_there_and_back(self):
        # F6: never a gap, and another moment only in a fold.
        every_gap = [((fold, gap),) for fold in ("early", "late") for gap in GAPS]
        self.assertEqual(rules_that_keep(ONE, THERE_AND_BACK, ("found",)), every_gap)
        refused = [(("refuse", gap),) for gap in GAPS]
        self.assertEqual(rules_that_keep(ONE, THERE_AND_BACK, ("same", 0, 2)), refused)
        early = [((fold, gap),) for fold in ("early", "refuse") for gap in GAPS]
        self.assertEqual(rules_that_keep(ONE, THERE_AND_BACK, ("order", 2, 0)), early)
        late = [((fold, gap),) for fold in ("late", "refuse") for gap in GAPS]
        self.assertEqual(rules_that_keep(ONE, THERE_AND_BACK, ("order", 0, 2)), late)
        self.assertEqual(rules_that_keep(ONE, THERE_AND_BACK, ("near", 0, 2, 60)), [(pair,) for pair in PAIRS])

    def test_none(self):
        program = (("read", 0, 0), ("add", 1, 500), ("find", 2, 0, "refuse", "refuse"))
        self.assertEqual(rules_that_keep(ONE, program, ("same", 0, 3)), [])
        self.assertEqual(rules_that_keep(ONE, program, ("order", 3, 0)), [])

    def test_gaps(self):
        found = [((fold, gap),) for fold in ("early", "late") for gap in ("ahead", "behind")]
        self.assertEqual(rules_that_keep(ONE, LATER, ("found",)), found)
        # An hour more on the clock is less than an hour in a gap by "behind" alone, and more
        # behind a jump back by each rule.
        program = LATER + (("add", 0, 60),)
        no_less = [((fold, gap),) for fold in FOLDS for gap in ("ahead", "refuse")]
        self.assertEqual(rules_that_keep(ONE, program, ("order", 4, 3)), no_less)
        self.assertEqual(rules_that_keep(ONE, program, ("order", 3, 4)), [])

    def test_own_rules_say_nothing(self):
        for program, wish in ((THERE_AND_BACK, ("same", 0, 2)), (LATER, ("found",)), (LATER, ("near", 0, 3, 60))):
            expected = rules_that_keep(ONE, program, wish)
            for pair in PAIRS:
                self.assertEqual(rules_that_keep(ONE, with_rules(program, [pair]), wish), expected)

    def test_without_finds(self):
        program = (("read", 0, 0), ("offset", 0, 0), ("plus", 0, 2), ("add", 0, 5))
        self.assertEqual(rules_that_keep(ONE, program, ("same", 1, 3)), [()])
        self.assertEqual(rules_that_keep(ONE, program, ("same", 0, 4)), [])
        self.assertEqual(rules_that_keep(ONE, program, ("found",)), [()])
        for wish in (("found",), ("same", 0, 0), ("order", 0, 0), ("near", 0, 0, 0)):
            self.assertEqual(rules_that_keep(ONE, (), wish), [()])

    def test_one_offset(self):
        for wish in (("found",), ("same", 0, 2), ("near", 0, 2, 0)):
            self.assertEqual(rules_that_keep((((7,), 1),), THERE_AND_BACK, wish), [(pair,) for pair in PAIRS])

    def test_two_finds_in_their_sequence(self):
        every = [(one, other) for one in PAIRS for other in PAIRS]
        self.assertEqual(rules_that_keep(ONE, TWICE, ("near", 0, 4, 1000)), every)
        self.assertEqual(rules_that_keep(ONE, TWICE, ("same", 1, 3)), every)
        self.assertEqual(
            rules_that_keep(ONE, TWICE, ("found",)),
            [pairs for pairs in every if "refuse" not in (pairs[0][0], pairs[1][0])],
        )
        # The first find alone makes value 2, the second one value 4.
        self.assertEqual(
            rules_that_keep(ONE, TWICE, ("order", 2, 4)),
            [pairs for pairs in every if pairs[0][0] != "late" or pairs[1][0] != "early"],
        )

    def test_rules_of_two_finds_against_keeps(self):
        program = (("read", 0, 0), ("add", 1, 30), ("find", 2, 0, "early", "ahead"), ("find", 1, 1, "late", "behind"))
        for wish in (("found",), ("order", 0, 3), ("near", 3, 4, 90), ("near", 0, 4, 60)):
            kept = [
                rules for rules in product(PAIRS, PAIRS) if keeps(TWO, with_rules(program, rules), wish)
            ]
            self.assertEqual(rules_that_keep(TWO, program, wish), kept)

    def test_kinds(self):
        kept = rules_that_keep(ONE, TWICE, ("found",))
        self.assertIs(type(kept), list)
        for row in kept:
            self.assertEqual([type(row)] + [type(pair) for pair in row], [tuple] * 3)
        kept.clear()
        self.assertEqual(len(rules_that_keep(ONE, TWICE, ("found",))), 36)


class TestSpacingByHand(unittest.TestCase):
    def test_kept_with_each(self):
        self.assertEqual(least_spacing(ONE, THERE_AND_BACK, ("found",), 0), 61)
        self.assertEqual(least_spacing(ONE, (), ("found",), 0), 61)
        self.assertEqual(least_spacing((((5,), 700),), (), ("same", 0, 0), 0), 1)
        self.assertEqual(least_spacing((((-900, 900), 5000),), THERE_AND_BACK, ("found",), 0), 1801)

    def test_kept_with_none(self):
        self.assertIsNone(least_spacing(ONE, THERE_AND_BACK, ("same", 0, 2), 0))
        self.assertIsNone(least_spacing(ONE, (("add", 0, 1),), ("same", 0, 1), 0))

    def test_two_folds_one_behind_the_other(self):
        # They take three jumps from 0 to 170, which goes up to a spacing of 84.
        program = (
            ("read", 0, 0), ("find", 1, 0, "late", "behind"), ("add", 2, 50), ("read", 3, 0),
            ("find", 4, 0, "late", "behind"),
        )
        for spacing in (61, 84, 85, 100, 1000000):
            zones = (((0, 60), spacing),)
            self.assertEqual(least_spacing(zones, program, ("near", 0, 5, 110), 0), 85)
            self.assertEqual(least_spacing(zones, program, ("near", 0, 5, 170), 0), 61)
            self.assertIsNone(least_spacing(zones, program, ("near", 0, 5, 109), 0))

    def test_greatest_spacing(self):
        # The jump back of the first fold is at 1 at the earliest, that of the second one at
        # 400,120 at the latest, and a jump ahead is between, so twice the spacing is between.
        program = (
            ("read", 0, 0), ("find", 1, 0, "late", "ahead"), ("add", 2, 100000), ("add", 3, 100000),
            ("add", 4, 100000), ("add", 5, 100000), ("read", 6, 0), ("find", 7, 0, "late", "ahead"),
        )
        least = least_spacing(ONE, program, ("near", 0, 8, 400060), 0)
        for spacing, kept in ((least - 1, False), (least, True), (least + 1, True), (1000000, True)):
            self.assertIs(keeps((((0, 60), spacing),), program, ("near", 0, 8, 400060)), kept)
        self.assertEqual(least, 200060)

    def test_each_place(self):
        program = (("read", 0, 0), ("find", 1, 0, "late", "ahead"), ("read", 2, 1), ("find", 3, 1, "late", "ahead"))
        self.assertEqual(least_spacing(TWO, program, ("found",), 0), 61)
        self.assertEqual(least_spacing(TWO, program, ("found",), 1), 61)
        self.assertEqual(least_spacing((((0, 7), 8), ((-30, 30), 61)), program, ("found",), 0), 8)
        self.assertIsNone(least_spacing(TWO, program, ("same", 0, 4), 1))

    def test_place_is_asked_for_last(self):
        self.assertRaises(InvalidWish, least_spacing, ONE, (), ("same", 0, 1), 1)
        for odd in (*ODD_VALUES, 1, -1):
            self.assertRaises(InvalidPlace, least_spacing, ONE, (), ("found",), odd)


class TestPartingByHand(unittest.TestCase):
    def alike(self, zones, one, other, world):
        self.assertIs(alike(zones, one, other), world is None)
        self.assertEqual(parting(zones, one, other), world)

    def test_empty_programs(self):
        self.alike(ONE, (), (), None)
        self.alike(ONE, (), (("add", 0, 0),), None)
        self.alike(ONE, (("add", 0, 1),), (), unchanged((0, ())))
        self.alike(TWO, (), (("add", 0, 1),), unchanged((0, ()), (-30, ())))

    def test_steps_by_another_way(self):
        self.alike(ONE, (("read", 0, 0),), (("offset", 0, 0), ("plus", 0, 1)), None)
        self.alike(ONE, (("add", 0, 5), ("add", 1, -5)), (), None)
        self.alike(ONE, (("offset", 0, 0),), (("read", 0, 0), ("offset", 0, 0)), None)

    def test_spans(self):
        later = (("add", 0, 1), ("offset", 1, 0))
        self.alike(ONE, (("offset", 0, 0),), later, unchanged((0, ((1, 60),))))
        self.alike(ONE, later, (("offset", 0, 0),), unchanged((60, ((1, 0),))))
        self.alike((((5,), 9),), (("offset", 0, 0),), later, None)

    def test_find_gives_the_start_but_in_a_fold(self):
        self.alike(ONE, THERE_AND_BACK, (), unchanged((60, ((-59, 0),))))
        self.alike(ONE, (), THERE_AND_BACK, unchanged((60, ((-59, 0),))))
        late = with_rules(THERE_AND_BACK, [("late", "ahead")])
        self.alike(ONE, late, (), unchanged((60, ((1, 0),))))
        self.alike(ONE, THERE_AND_BACK, late, unchanged((60, ((-59, 0),))))
        self.alike(ONE, THERE_AND_BACK, with_rules(THERE_AND_BACK, [("early", "refuse")]), None)

    def test_refused_at_another_step(self):
        refuse = with_rules(THERE_AND_BACK, [("refuse", "ahead")])
        more = (("add", 0, 7), ("add", 1, -7)) + (("read", 2, 0), ("find", 3, 0, "refuse", "behind"))
        self.alike(ONE, refuse, more, None)
        self.alike(ONE, refuse, (), unchanged((60, ((-59, 0),))))
        self.alike(ONE, (), refuse, unchanged((60, ((-59, 0),))))
        self.alike(ONE, refuse, THERE_AND_BACK, unchanged((60, ((-59, 0),))))

    def test_other_is_run_also_if_one_is_refused(self):
        # One is refused in a fold at the start; what other looks at an hour later still counts.
        refuse = with_rules(THERE_AND_BACK, [("refuse", "ahead")])
        other = (("add", 0, 500), ("read", 1, 0), ("add", 0, 0))
        self.alike(ONE, refuse, other, unchanged((60, ((-59, 0),))))
        # At first neither is refused, then other alone, in a fold five hundred minutes later.
        other = (("add", 0, 500), ("read", 1, 0), ("find", 2, 0, "refuse", "ahead"), ("add", 3, -500))
        self.assertEqual(parting(ONE, refuse, other), unchanged((0, ((1, 60), (441, 0)))))

    def test_first_case_goes_by_the_looks_of_one_ahead_of_those_of_other(self):
        one = (("add", 0, 200), ("offset", 1, 0))
        other = (("offset", 0, 0),)
        # Offsets at (200, 0): (0, 0), (0, 60) - the second is the first that parts them.
        self.alike(ONE, one, other, unchanged((60, ((1, 0),))))
        self.alike(ONE, other, one, unchanged((0, ((1, 60),))))

    def test_crowded_looks_of_both_together(self):
        # The offsets 0, 60, 0 at 0, 50 and 100 are crowded, though neither program looks at all three.
        one = (("offset", 0, 0), ("add", 0, 100), ("offset", 2, 0))
        other = (("add", 0, 50), ("offset", 1, 0))
        self.alike(ONE, one, other, unchanged((0, ((51, 60),))))
        self.alike((((0, 60), 99),), one, other, unchanged((0, ((1, 60), (100, 0)))))

    def test_two_places(self):
        self.alike(TWO, (("read", 0, 0),), (("read", 0, 1),), unchanged((0, ()), (-30, ())))
        same = (ZONE, ZONE)
        self.alike(same, (("read", 0, 0),), (("read", 0, 1),), unchanged((0, ()), (60, ())))
        self.alike(same, (("read", 0, 1),), (("read", 0, 0),), unchanged((60, ()), (0, ())))
        single = (((5,), 1), ((5,), 9))
        self.alike(single, (("read", 0, 0),), (("read", 0, 1),), None)

    def test_wrong_programs(self):
        for odd in (*ODD_VALUES, 0, (("read", 0, 1),)):
            for function in (alike, parting):
                self.assertRaises(InvalidProgram, function, ONE, odd, ())
                if odd != ():
                    self.assertRaises(InvalidProgram, function, ONE, (), odd)
                self.assertRaises(InvalidZones, function, ZONE, odd, odd)

    def test_last_values_of_unlike_kinds(self):
        ends = {"moment": (), "reading": (("read", 0, 0),), "span": (("read", 0, 0), ("offset", 0, 0))}
        for function in (alike, parting):
            for one in ends:
                for other in ends:
                    if one == other:
                        function(ONE, ends[one], ends[other])
                    else:
                        self.assertRaises(InvalidProgram, function, ONE, ends[one], ends[other])


def chosen_finds():
    """Zones and programs with one find or two, and some without."""
    for zone, length, minutes, stride in (
        (NEAR, 2, (), 1), (NEAR, 3, (1,), 5), (WIDE, 3, (-1,), 9), (LONG, 3, (2,), 9), (THREE, 3, (1,), 13),
        (NEAR, 4, (1,), 67),
    ):
        programs = programs_of((zone,), length, minutes, [("late", "refuse")])
        yield from (((zone,), program) for program in programs[::stride] if finds_of(program) <= 1)
    for zones, program in (
        ((NEAR,), TWICE), ((WIDE,), TWICE), ((NEAR, WIDE), TWICE[:1] + (("find", 1, 1, "early", "ahead"),)),
        ((NEAR,), TWICE[:2] + (("find", 1, 0, "late", "refuse"),)),
        ((LONG,), (("read", 0, 0), ("add", 1, 1), ("find", 2, 0, "late", "ahead"), ("find", 1, 0, "late", "ahead"))),
        ((NEAR,), (("read", 0, 0), ("edition", 0, 0), ("find", 1, 0, "early", "ahead"), ("find", 1, 0, "late", "ahead"))),
    ):
        yield zones, program


class TestRulesAgainstAllTables(unittest.TestCase):
    def test_all_rules_one_by_one(self):
        numbers = []
        for zones, program in chosen_finds():
            rows = list(product(PAIRS, repeat=finds_of(program)))
            slow = {rules: slow_cases(zones, with_rules(program, rules)) for rules in rows}
            for wish in wishes_of(program):
                kept = [rules for rules in rows if not any(slow_breaks(case, wish) for case in slow[rules])]
                self.assertEqual(rules_that_keep(zones, program, wish), kept, (zones, program, wish))
                numbers.append((len(kept), finds_of(program)))
        for finds in range(3):
            self.assertIn((0, finds), numbers)
            self.assertIn((9 ** finds, finds), numbers)
        self.assertTrue({number for number, _ in numbers} > {0, 1, 3, 4, 6, 9, 81})


def spaced_samples():
    """Zones, a program, a place for which the least spacing is sought, and the farthest "near"."""
    for zones, length, minutes, stride in (
        ((((0, 1), 9),), 3, (1, -2), 19), ((((-1, 1), 9),), 3, (2,), 11), ((((0, 2), 3),), 4, (1,), 307),
        ((((-1, 0, 1), 9),), 3, (1,), 41), ((NEAR, ((0, 2), 3)), 3, (1,), 149),
    ):
        for program in programs_of(zones, length, minutes, [("early", "behind"), ("late", "refuse")])[::stride]:
            for place in range(len(zones)):
                yield zones, program, place, 2
    there_and_back = (("read", 0, 0), ("find", 1, 0, "late", "behind"))
    for minutes in (1, 3, 6):
        on = (("add", 2, minutes), ("read", 3, 0), ("find", 4, 0, "late", "behind"))
        yield (((0, 2), 4),), there_and_back + on, 0, 9


class TestSpacingAgainstAllTables(unittest.TestCase):
    def test_all_spacings_one_by_one(self):
        found = []
        for zones, program, place, farthest in spaced_samples():
            offsets = zones[place][0]
            first, last = slow_bounds(zones, program)[place]
            # With a spacing of all that is looked at there is one jump at most, as with a greater one.
            least = max(offsets) - min(offsets) + 1
            spacings = range(least, max(least, last - first) + 2)
            slow = {}
            for spacing in spacings:
                spaced = tuple((offsets, spacing) if k == place else zone for k, zone in enumerate(zones))
                slow[spacing] = slow_cases(spaced, program)
            for wish in wishes_of(program, farthest):
                kept = [
                    spacing for spacing in spacings if not any(slow_breaks(case, wish) for case in slow[spacing])
                ]
                self.assertEqual(kept, [spacing for spacing in spacings if kept and spacing >= kept[0]])
                expected = kept[0] if kept else None
                self.assertEqual(least_spacing(zones, program, wish, place), expected, (zones, program, wish, place))
                found.append(None if expected is None else expected - least)
        self.assertTrue({*found} >= {None, 0, 1, 2}, {*found})


def pairs_of_programs():
    """Zones and two programs whose last values have one kind, with at most four conversions in both."""
    rules = [("early", "behind"), ("late", "ahead"), ("refuse", "refuse")]
    for zones, first, second, minutes, stride in (
        ((NEAR,), 1, 1, (-1, 1), 1), ((NEAR,), 2, 2, (-1, 1), 7), ((WIDE,), 2, 2, (1, 2), 7),
        ((NEAR,), 2, 3, (1,), 97), ((LONG,), 3, 2, (1,), 193), ((THREE,), 2, 2, (1,), 23),
        ((NEAR, WIDE), 2, 2, (1,), 41), ((NEAR,), 3, 3, (), 997), ((NEAR,), 0, 2, (1, -1), 1),
    ):
        every = [
            (one, other) for one in programs_of(zones, first, minutes, rules)
            for other in programs_of(zones, second, minutes, rules) if fits(one, other)
        ]
        yield from ((zones, *pair) for pair in every[::stride])
    for one, other in (
        (THERE_AND_BACK, ()), (TWICE, ()), (with_rules(TWICE, [("refuse", "ahead")] * 2), ()),
        (THERE_AND_BACK, with_rules(THERE_AND_BACK, [("refuse", "behind")])),
        (with_rules(THERE_AND_BACK, [("refuse", "ahead")]), with_rules(THERE_AND_BACK, [("refuse", "behind")])),
        (with_rules(LATER, [("refuse", "ahead")]), with_rules(LATER, [("refuse", "refuse")])),
    ):
        for zone in (NEAR, WIDE, LONG, THREE):
            if zone is not THREE or other != () or one is not TWICE:
                yield (zone,), tiny(one), tiny(other)


def tiny(program):
    """The program with 1 minute for 60."""
    return tuple(step[:2] + (1,) if step[0] == "add" else step for step in program)


def fits(one, other):
    words = [step[0] for step in one + other]
    conversions = [word for word in words if word in ("read", "find", "offset")]
    if "edition" in words or len(conversions) > 4:
        return False
    return slow_kinds(one)[-1] == slow_kinds(other)[-1]


class TestPartingAgainstAllTables(unittest.TestCase):
    def test_all_tables_one_by_one(self):
        seen = {True: 0, False: 0}
        one_refused = [0, 0]
        for zones, one, other in pairs_of_programs():
            apart = [pair for pair in slow_pairs(zones, one, other) if pair[1] != pair[2]]
            expected = None
            if apart:
                looked, end, other_end = apart[0]
                expected = unchanged(*[
                    slow_early(zone, sorted(look[2:] for look in looked if look[0] == place))
                    for place, zone in enumerate(zones)
                ])
                one_refused[0] += end is None
                one_refused[1] += other_end is None
            world = parting(zones, one, other)
            self.assertEqual(world, expected, (zones, one, other))
            self.assertIs(alike(zones, one, other), world is None)
            seen[world is None] += 1
            if world is not None:
                self.runs_apart(zones, one, other, world)
        self.assertGreater(min(seen.values()), 40)
        self.assertGreater(min(one_refused), 3)

    def runs_apart(self, zones, one, other, world):
        self.assertIs(is_world(zones, world), True)
        for start in (0, 5, -10 ** 9):
            there = moved(world, start)
            self.assertNotEqual(end_of(zones, one, there, start), end_of(zones, other, there, start))

    def test_alike_programs_end_alike_in_the_worlds_of_either(self):
        number = 0
        for zones, one, other in pairs_of_programs():
            if alike(zones, one, other):
                number += 1
                for world in [*worlds(zones, one), *worlds(zones, other)]:
                    self.assertEqual(end_of(zones, one, world), end_of(zones, other, world))
        self.assertGreater(number, 40)


class TestBesideTheOtherModules(unittest.TestCase):
    def test_kept_rules_are_those_without_a_breaking_world(self):
        for wish in (("found",), ("same", 0, 3), ("near", 0, 3, 120), ("order", 0, 3)):
            kept = rules_that_keep(ONE, LATER, wish)
            for pair in PAIRS:
                world = breaking(ONE, with_rules(LATER, [pair]), wish)
                self.assertEqual((pair,) in kept, world is None)

    def test_parting_world_has_early_tables(self):
        world = parting(ONE, THERE_AND_BACK, ())
        self.assertEqual(world[0][0], early_table(ZONE, ((-60, 60), (0, 0))))
